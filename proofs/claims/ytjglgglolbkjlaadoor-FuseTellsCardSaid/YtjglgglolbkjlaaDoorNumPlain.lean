/- Plain mathematics of float64's bits as natural numbers: magnitude, sign, kind, the one NaN. -/
import Derived.WalkKit
namespace Go.Proofs.YtjglgglolbkjlaaDoor.NumP
/-- The bits without the sign. -/
def mag (x : Nat) : Nat := x % 9223372036854775808
/-- The kind of a number, by its bits. -/
def kind (x : Nat) : Int :=
  if 9218868437227405312 < mag x then 9
  else if mag x = 9218868437227405312 then (if x = mag x then 8 else 1)
  else if 4503599627370496 ≤ mag x then (if x = mag x then 7 else 2)
  else if 0 < mag x then (if x = mag x then 6 else 3)
  else (if x = mag x then 5 else 4)
theorem andNot_sign (x : Nat) (h : x < 18446744073709551616) : bits .andNot .u64 (x : Int) 9223372036854775808 = (mag x : Int) := by
  have e := u64_andNot_nat x 9223372036854775808 h (by decide)
  have e2 : ((9223372036854775808 : Nat) : Int) = 9223372036854775808 := rfl
  rw [e2] at e
  rw [e]
  have e3 : (18446744073709551615 - 9223372036854775808 : Nat) = 2 ^ 63 - 1 := by decide
  rw [e3, Nat.and_two_pow_sub_one_eq_mod]
  rfl
/-- The tests of a number's kind, as the walk spells them. -/
theorem tests (x : Nat) :
    (9218868437227405312 < mag x → decide ((9218868437227405312 : Int) < (mag x : Int)) = true ∧ kind x = 9) ∧
    (mag x = 9218868437227405312 → decide ((9218868437227405312 : Int) < (mag x : Int)) = false ∧ ((mag x : Int) == 9218868437227405312) = true ∧ kind x = if x = mag x then 8 else 1) ∧
    (4503599627370496 ≤ mag x → mag x < 9218868437227405312 → decide ((9218868437227405312 : Int) < (mag x : Int)) = false ∧ ((mag x : Int) == 9218868437227405312) = false ∧ decide ((4503599627370496 : Int) ≤ (mag x : Int)) = true ∧ kind x = if x = mag x then 7 else 2) ∧
    (0 < mag x → mag x < 4503599627370496 → decide ((9218868437227405312 : Int) < (mag x : Int)) = false ∧ ((mag x : Int) == 9218868437227405312) = false ∧ decide ((4503599627370496 : Int) ≤ (mag x : Int)) = false ∧ decide ((0 : Int) < (mag x : Int)) = true ∧ kind x = if x = mag x then 6 else 3) ∧
    (mag x = 0 → decide ((9218868437227405312 : Int) < (mag x : Int)) = false ∧ ((mag x : Int) == 9218868437227405312) = false ∧ decide ((4503599627370496 : Int) ≤ (mag x : Int)) = false ∧ decide ((0 : Int) < (mag x : Int)) = false ∧ kind x = if x = mag x then 5 else 4) := by
  unfold kind
  generalize mag x = m
  refine ⟨?_, ?_, ?_, ?_, ?_⟩
  · intro h; exact ⟨by rw [decide_eq_true_eq]; omega, by rw [if_pos h]⟩
  · intro h; exact ⟨by rw [decide_eq_false_iff_not]; omega, by rw [beq_iff_eq]; omega, by rw [if_neg (by omega), if_pos h]⟩
  · intro h h2; exact ⟨by rw [decide_eq_false_iff_not]; omega, by rw [beq_eq_false_iff_ne]; omega, by rw [decide_eq_true_eq]; omega, by rw [if_neg (by omega), if_neg (by omega), if_pos h]⟩
  · intro h h2; exact ⟨by rw [decide_eq_false_iff_not]; omega, by rw [beq_eq_false_iff_ne]; omega, by rw [decide_eq_false_iff_not]; omega, by rw [decide_eq_true_eq]; omega, by rw [if_neg (by omega), if_neg (by omega), if_neg (by omega), if_pos h]⟩
  · intro h; exact ⟨by rw [decide_eq_false_iff_not]; omega, by rw [beq_eq_false_iff_ne]; omega, by rw [decide_eq_false_iff_not]; omega, by rw [decide_eq_false_iff_not]; omega, by rw [if_neg (by omega), if_neg (by omega), if_neg (by omega), if_neg (by omega)]⟩
/-- The one form of a number. -/
def oneN (x : Nat) : Nat := if 9218868437227405312 < mag x then 9221120237041090561 else x
theorem one_lt (x : Nat) (h : x < 18446744073709551616) : oneN x < 18446744073709551616 := by unfold oneN; split <;> omega
theorem one_nan (x : Nat) : 9218868437227405312 < mag x → oneN x = 9221120237041090561 := fun h => if_pos h
theorem one_num (x : Nat) : ¬ 9218868437227405312 < mag x → oneN x = x := fun h => if_neg h
theorem kind_nan (x : Nat) : 9218868437227405312 < mag x → kind x = 9 := fun h => if_pos h
theorem kind_num (x : Nat) : ¬ 9218868437227405312 < mag x → 1 ≤ kind x ∧ kind x ≤ 8 := by
  intro h; unfold kind; rw [if_neg h]; (repeat' split) <;> omega
end Go.Proofs.YtjglgglolbkjlaaDoor.NumP

