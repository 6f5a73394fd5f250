/- tick.MulDiv, Sum's reckoning, Half, Clamp. -/
import Derived.Test.YtelfbjldfdlpnaaTickAdd
namespace Go.Proofs.Ytelfbjldfdlpnaa.TickW
open Go.RowKit
theorem half_raw (a b : Int) (w : World) :
    Calls Try.prog 38 #[.int .i64 a, .int .i64 b] w fun e w' => e = .returned (.int .i64 (wrap64 (bits .and .i64 a b + bits .xor .i64 a b / 2))) ∧ w = w' := by
  go_enter Try.func38, Try.ntmps38
  go_wp2
  go_ret
  exact ⟨rfl, rfl⟩
theorem nat_and_xor : ∀ (n a b : Nat), a < 2 ^ n → b < 2 ^ n → 2 * (a &&& b) + (a ^^^ b) = a + b := by
  intro n
  induction n with
  | zero => intro a b ha hb; have : a = 0 := by omega
            have : b = 0 := by omega
            subst_vars; rfl
  | succ n ih =>
    intro a b ha hb
    have h := ih (a / 2) (b / 2) (by rw [Nat.pow_succ] at ha; omega) (by rw [Nat.pow_succ] at hb; omega)
    have e1 : (a &&& b) / 2 = a / 2 &&& b / 2 := Nat.and_div_two
    have e2 : (a ^^^ b) / 2 = a / 2 ^^^ b / 2 := Nat.xor_div_two
    have e3 : (a &&& b) % 2 = if a % 2 = 1 ∧ b % 2 = 1 then 1 else 0 := by
      have := @Nat.and_mod_two_pow a b 1
      rw [Nat.pow_one] at this
      rw [this]
      rcases Nat.mod_two_eq_zero_or_one a with h1 | h1 <;> rcases Nat.mod_two_eq_zero_or_one b with h2 | h2 <;> rw [h1, h2] <;> decide
    have e4 : (a ^^^ b) % 2 = if a % 2 = b % 2 then 0 else 1 := by
      have := @Nat.xor_mod_two_pow a b 1
      rw [Nat.pow_one] at this
      rw [this]
      rcases Nat.mod_two_eq_zero_or_one a with h1 | h1 <;> rcases Nat.mod_two_eq_zero_or_one b with h2 | h2 <;> rw [h1, h2] <;> decide
    rw [← e1, ← e2] at h
    generalize a &&& b = u at *
    generalize a ^^^ b = v at *
    split at e3 <;> split at e4 <;> omega
theorem top_and (A B : Nat) : (A &&& B) / 9223372036854775808 = (A / 9223372036854775808) &&& (B / 9223372036854775808) := by
  have := @Nat.and_div_two_pow A B 63
  rw [show (2 : Nat) ^ 63 = 9223372036854775808 from by decide] at this
  exact this
theorem top_xor (A B : Nat) : (A ^^^ B) / 9223372036854775808 = (A / 9223372036854775808) ^^^ (B / 9223372036854775808) := by
  have := @Nat.xor_div_two_pow A B 63
  rw [show (2 : Nat) ^ 63 = 9223372036854775808 from by decide] at this
  exact this
theorem half_nums (a b : Int) (A B u v p q r s : Nat) (hs : 2 * u + v = A + B) (hA : (A : Int) = a + 18446744073709551616 * p) (hB : (B : Int) = b + 18446744073709551616 * q)
    (hu : u / 9223372036854775808 = r) (hv : v / 9223372036854775808 = s) (h : 2 * r + s = p + q) (hr : r ≤ 1) (hs1 : s ≤ 1)
    (ha0 : -9223372036854775808 ≤ a) (ha1 : a ≤ 9223372036854775807) (hb0 : -9223372036854775808 ≤ b) (hb1 : b ≤ 9223372036854775807) :
    wrap64 (wrap64 (u : Int) + wrap64 (v : Int) / 2) = (a + b) / 2 := by
  have e1 : wrap64 (u : Int) = (u : Int) - 18446744073709551616 * r := by clear hs hA hB hv h; unfold wrap64; omega
  have e2 : wrap64 (v : Int) = (v : Int) - 18446744073709551616 * s := by clear hs hA hB hu h e1; unfold wrap64; omega
  rw [e1, e2]
  have e3 : (u : Int) - 18446744073709551616 * r + ((v : Int) - 18446744073709551616 * s) / 2 = (a + b) / 2 := by clear hu hv e1 e2; omega
  rw [e3]
  clear e1 e2 e3 hs hA hB hu hv h
  unfold wrap64
  omega
theorem half_eq (a b : Int) (ha0 : -9223372036854775808 ≤ a) (ha1 : a ≤ 9223372036854775807) (hb0 : -9223372036854775808 ≤ b) (hb1 : b ≤ 9223372036854775807) :
    wrap64 (bits .and .i64 a b + bits .xor .i64 a b / 2) = (a + b) / 2 := by
  have e1 : bits .and .i64 a b = IntKind.i64.wrap ((BitVec.ofInt 64 a &&& BitVec.ofInt 64 b).toNat : Int) := rfl
  have e2 : bits .xor .i64 a b = IntKind.i64.wrap ((BitVec.ofInt 64 a ^^^ BitVec.ofInt 64 b).toNat : Int) := rfl
  have w64 : ∀ n : Int, IntKind.i64.wrap n = wrap64 n := fun n => by unfold wrap64; exact IntKind.wrap_i64 n
  rw [e1, e2, BitVec.toNat_and, BitVec.toNat_xor, w64, w64]
  have lt1 := (BitVec.ofInt 64 a).isLt
  have lt2 := (BitVec.ofInt 64 b).isLt
  have F : ∀ x : Int, -9223372036854775808 ≤ x → x ≤ 9223372036854775807 → ∃ p : Nat, p ≤ 1 ∧ ((BitVec.ofInt 64 x).toNat : Int) = x + 18446744073709551616 * p ∧ (BitVec.ofInt 64 x).toNat / 9223372036854775808 = p := by
    intro x h0 h1
    have t : (BitVec.ofInt 64 x).toNat = (x % 18446744073709551616).toNat := by rw [BitVec.toNat_ofInt]; rfl
    rw [t]
    rcases Int.lt_or_le x 0 with h | h
    · exact ⟨1, by decide, by omega, by omega⟩
    · exact ⟨0, by decide, by omega, by omega⟩
  obtain ⟨p, hp1, hp2, hp3⟩ := F a ha0 ha1
  obtain ⟨q, hq1, hq2, hq3⟩ := F b hb0 hb1
  have hsum := nat_and_xor 64 _ _ lt1 lt2
  have d1 := top_and (BitVec.ofInt 64 a).toNat (BitVec.ofInt 64 b).toNat
  have d2 := top_xor (BitVec.ofInt 64 a).toNat (BitVec.ofInt 64 b).toNat
  rw [hp3, hq3] at d1 d2
  have G : ∀ p q : Nat, p ≤ 1 → q ≤ 1 → 2 * (p &&& q) + (p ^^^ q) = p + q ∧ (p &&& q) ≤ 1 ∧ (p ^^^ q) ≤ 1 := by
    intro p q h1 h2
    rcases (show p = 0 ∨ p = 1 by omega) with rfl | rfl <;> rcases (show q = 0 ∨ q = 1 by omega) with rfl | rfl <;> decide
  obtain ⟨g1, g2, g3⟩ := G p q hp1 hq1
  clear lt1 lt2 F G hp3 hq3
  generalize (BitVec.ofInt 64 a).toNat = A at *
  generalize (BitVec.ofInt 64 b).toNat = B at *
  generalize A &&& B = u at *
  generalize A ^^^ B = v at *
  generalize p &&& q = r at *
  generalize p ^^^ q = t at *
  have H := half_nums a b A B u v p q r t hsum hp2 hq2 d1 d2 g1 g2 g3 ha0 ha1 hb0 hb1
  exact H
theorem half_any (a b : Int) (ha0 : -9223372036854775808 ≤ a) (ha1 : a ≤ 9223372036854775807) (hb0 : -9223372036854775808 ≤ b) (hb1 : b ≤ 9223372036854775807) (w : World) :
    Calls Try.prog 38 #[.int .i64 a, .int .i64 b] w fun e w' => e = .returned (.int .i64 ((a + b) / 2)) ∧ w = w' := by
  rw [← half_eq a b ha0 ha1 hb0 hb1]
  exact half_raw a b w
end Go.Proofs.Ytelfbjldfdlpnaa.TickW

