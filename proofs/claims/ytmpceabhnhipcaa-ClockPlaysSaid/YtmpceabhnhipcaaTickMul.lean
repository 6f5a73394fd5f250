/- tick.product: the product of any two numbers of 64 bits, of 128 bits. -/
import Derived.Test.YtmpceabhnhipcaaTickWide
import Derived.Test.YtmpceabhnhipcaaShelf
namespace Go.Proofs.Ytmpceabhnhipcaa.TickW
open Go.RowKit
theorem and_zero_u64 (x : Int) (h0 : 0 ≤ x) (h1 : x < 18446744073709551616) : bits .and .u64 0 x = 0 := by
  obtain ⟨x, rfl⟩ := Int.eq_ofNat_of_zero_le h0
  have := bits_and_u64_nat 0 x (by omega) (by omega)
  simpa using this
theorem and_ones_u64 (x : Int) (h0 : 0 ≤ x) (h1 : x < 18446744073709551616) : bits .and .u64 18446744073709551615 x = x := by
  obtain ⟨x, rfl⟩ := Int.eq_ofNat_of_zero_le h0
  have := bits_and_u64_nat 18446744073709551615 x (by omega) (by omega)
  have e : 18446744073709551615 &&& x = x := by
    rw [Nat.and_comm, show (18446744073709551615 : Nat) = 2 ^ 64 - 1 by decide, Nat.and_two_pow_sub_one_eq_mod]
    omega
  rw [e] at this
  exact this
theorem product_raw (a b ua ub h l fa fb da db : Int) (w : World) (ea : IntKind.u64.wrap a = ua) (eb : IntKind.u64.wrap b = ub) (esa : IntKind.u64.wrap (a / 9223372036854775808) = fa) (esb : IntKind.u64.wrap (b / 9223372036854775808) = fb)
    (H : ∀ W : World, Calls Try.prog 51 #[.int .u64 ua, .int .u64 ub] W fun e w' => e = .returned (.tuple #[.int .u64 h, .int .u64 l]) ∧ w' = W)
    (eda : bits .and .u64 fa ub = da) (edb : bits .and .u64 fb ua = db) :
    Calls Try.prog 42 #[.int .i64 a, .int .i64 b] w fun e w' => e = .returned (.agg #[.int .u64 (IntKind.u64.wrap (IntKind.u64.wrap (h - da) - db)), .int .u64 l]) ∧ Below w.heap.size w w' := by
  go_enter Try.func42, Try.ntmps42
  go_wp2_with (first | (go_at_call 51; (with_reducible refine (H _).mono ?_); rintro e w' ⟨rfl, rfl⟩))
  exact ret_wide rfl rfl (heap_at (by simp) _) ⟨rfl, al (Below.refl _ _) _⟩
theorem cast_mul (ua ub : Int) (h0 : 0 ≤ ua) (h1 : 0 ≤ ub) : ((ua.toNat * ub.toNat / 18446744073709551616 : Nat) : Int) = ua * ub / 18446744073709551616 ∧ ((ua.toNat * ub.toNat % 18446744073709551616 : Nat) : Int) = ua * ub % 18446744073709551616 := by
  have e : ((ua.toNat * ub.toNat : Nat) : Int) = ua * ub := by rw [Int.natCast_mul, Int.toNat_of_nonneg h0, Int.toNat_of_nonneg h1]
  constructor <;> omega
/-- Of any two numbers of 64 bits the product, of 128 bits. -/
theorem product_any (a b : Int) (ha0 : -9223372036854775808 ≤ a) (ha1 : a ≤ 9223372036854775807) (hb0 : -9223372036854775808 ≤ b) (hb1 : b ≤ 9223372036854775807) (w : World) :
    Calls Try.prog 42 #[.int .i64 a, .int .i64 b] w fun e w' => e = .returned (wv (a * b)) ∧ Below w.heap.size w w' := by
  have ea : IntKind.u64.wrap a = a % 18446744073709551616 := IntKind.wrap_u64 _
  have eb : IntKind.u64.wrap b = b % 18446744073709551616 := IntKind.wrap_u64 _
  have ea0 : 0 ≤ a % 18446744073709551616 := by omega
  have eb0 : 0 ≤ b % 18446744073709551616 := by omega
  obtain ⟨eh, el⟩ := cast_mul _ _ ea0 eb0
  have H : ∀ W : World, Calls Try.prog 51 #[.int .u64 (a % 18446744073709551616), .int .u64 (b % 18446744073709551616)] W fun e w' => e = .returned (.tuple #[.int .u64 (a % 18446744073709551616 * (b % 18446744073709551616) / 18446744073709551616), .int .u64 (a % 18446744073709551616 * (b % 18446744073709551616) % 18446744073709551616)]) ∧ w' = W := by
    intro W
    have h := Try.bits_Mul64 (a % 18446744073709551616).toNat (b % 18446744073709551616).toNat (by omega) (by omega) W
    rw [eh, el, Int.toNat_of_nonneg ea0, Int.toNat_of_nonneg eb0] at h
    exact h
  have F : ∀ x : Int, -9223372036854775808 ≤ x → x ≤ 9223372036854775807 → (0 ≤ x ∧ x % 18446744073709551616 = x ∧ IntKind.u64.wrap (x / 9223372036854775808) = 0) ∨ (x < 0 ∧ x % 18446744073709551616 = x + 18446744073709551616 ∧ IntKind.u64.wrap (x / 9223372036854775808) = 18446744073709551615) := by
    intro x h0 h1
    rw [IntKind.wrap_u64]
    omega
  have D : ∀ x y fx : Int, fx = 0 ∧ 0 ≤ x ∨ fx = 18446744073709551615 ∧ x < 0 → bits .and .u64 fx (y % 18446744073709551616) = if 0 ≤ x then 0 else y % 18446744073709551616 := by
    rintro x y fx (⟨rfl, h⟩ | ⟨rfl, h⟩)
    · rw [and_zero_u64 _ (by omega) (by omega), if_pos h]
    · rw [and_ones_u64 _ (by omega) (by omega), if_neg (by omega)]
  have Fa := F a ha0 ha1
  have Fb := F b hb0 hb1
  have da := D a b (IntKind.u64.wrap (a / 9223372036854775808)) (by omega)
  have db := D b a (IntKind.u64.wrap (b / 9223372036854775808)) (by omega)
  refine (product_raw a b _ _ _ _ _ _ _ _ w ea eb rfl rfl H da db).mono ?_
  rintro e w' ⟨rfl, hb⟩
  refine ⟨?_, hb⟩
  unfold wv
  rw [IntKind.wrap_u64, IntKind.wrap_u64]
  have key : a % 18446744073709551616 * (b % 18446744073709551616) = a * b + 18446744073709551616 * ((if 0 ≤ a then 0 else b) + (if 0 ≤ b then 0 else a) + (if 0 ≤ a ∨ 0 ≤ b then 0 else 18446744073709551616)) := by
    rcases Fa with ⟨h, e, _⟩ | ⟨h, e, _⟩ <;> rcases Fb with ⟨k, f, _⟩ | ⟨k, f, _⟩ <;> rw [e, f]
    · rw [if_pos h, if_pos k, if_pos (Or.inl h)]; omega
    · rw [if_pos h, if_neg (by omega), if_pos (Or.inl h), Int.mul_add]; omega
    · rw [if_neg (by omega), if_pos k, if_pos (Or.inr k), Int.add_mul]; omega
    · rw [if_neg (by omega), if_neg (by omega), if_neg (by omega), Int.mul_add, Int.add_mul, Int.add_mul]; omega
  rw [key]
  generalize a * b = p
  have e1 : ((((p + 18446744073709551616 * ((if 0 ≤ a then 0 else b) + (if 0 ≤ b then 0 else a) + (if 0 ≤ a ∨ 0 ≤ b then 0 else 18446744073709551616))) / 18446744073709551616) - (if 0 ≤ a then 0 else b % 18446744073709551616)) % 18446744073709551616 - (if 0 ≤ b then 0 else a % 18446744073709551616)) % 18446744073709551616 = p / 18446744073709551616 % 18446744073709551616 := by
    rcases Fa with ⟨h, e, _⟩ | ⟨h, e, _⟩ <;> rcases Fb with ⟨k, f, _⟩ | ⟨k, f, _⟩
    · simp only [if_pos h, if_pos k, if_pos (Or.inl h : 0 ≤ a ∨ 0 ≤ b)]; omega
    · simp only [if_pos h, if_neg (show ¬ 0 ≤ b by omega), if_pos (Or.inl h : 0 ≤ a ∨ 0 ≤ b)]; omega
    · simp only [if_neg (show ¬ 0 ≤ a by omega), if_pos k, if_pos (Or.inr k : 0 ≤ a ∨ 0 ≤ b)]; omega
    · simp only [if_neg (show ¬ 0 ≤ a by omega), if_neg (show ¬ 0 ≤ b by omega), if_neg (show ¬ (0 ≤ a ∨ 0 ≤ b) by omega)]; omega
  rw [e1, Int.add_mul_emod_self_left]
end Go.Proofs.Ytmpceabhnhipcaa.TickW

