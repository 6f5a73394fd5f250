/- The document's numbers: Mul, of whole numbers. -/
import Derived.Test.YtkbkjbnfkgncdaaDoorTickRMul
namespace Go.Proofs.YtkbkjbnfkgncdaaDoor.TickW
open Go.RowKit
theorem dn_small {z : Int} (h0 : -9223372036854775808 ≤ z) (h1 : z ≤ 9223372036854775807) : dn z ≤ 4 := by
  refine dn_le ?_
  show z.natAbs < 18446744073709551616
  omega
theorem dn_add {a b : Int} {n : Nat} (ha : dn a ≤ n) (hb : dn b ≤ n) : dn (a + b) ≤ n + 1 := by
  have h := dl_len_add ha hb
  exact Nat.le_trans (dl_len_mono (by omega)) h
theorem dn_neg (a : Int) : dn (-a) = dn a := by unfold dn; rw [Int.natAbs_neg]
theorem dn_mul {a b : Int} {n m : Nat} (ha : dn a ≤ n) (hb : dn b ≤ m) : dn (a * b) ≤ n + m := by
  refine dn_le ?_
  rw [Int.natAbs_mul, Nat.pow_add]
  exact Nat.mul_lt_mul'' (lt_pow_of_len ha) (lt_pow_of_len hb)
theorem refMul_agg (a b : Int) (A B : Option Addr) (c c2 : Nat) (w : World) (ha : WD w A c a) (hb : WD w B c2 b) (la : dn a ≤ 400) (lb : dn b ≤ 400) :
    Calls Tryd.prog 18 #[.agg #[.slice A (dn a) c, .bool (sg a)], .agg #[.slice B (dn b) c2, .bool (sg b)]] w fun e w' => (∃ A' c', e = .returned (.agg #[.slice A' (dn (a * b)) c', .bool (sg (a * b))]) ∧ WD w' A' c' (a * b)) ∧ Below w.heap.size w w' := by
  refine (refMul_raw A B c c2 a.natAbs b.natAbs (sg a) (sg b) w ha.1 hb.1 la lb).mono ?_
  rintro e w' ⟨⟨A', c', rfl, hd, hc⟩, hw⟩
  have e1 : (a * b).natAbs = a.natAbs * b.natAbs := Int.natAbs_mul a b
  have e2 : (!(sg a == sg b) && decide (0 < a.natAbs * b.natAbs)) = sg (a * b) := by
    unfold sg
    rcases Int.lt_or_le a 0 with h1 | h1 <;> rcases Int.lt_or_le b 0 with h2 | h2
    · have h3 : ¬ a * b < 0 := Int.not_lt.2 (Int.le_of_lt (Int.mul_pos_of_neg_of_neg h1 h2))
      rw [decide_eq_true h1, decide_eq_true h2, decide_eq_false h3]; rfl
    · rw [decide_eq_true h1, decide_eq_false (Int.not_lt.2 h2)]
      simp only [Bool.not_false, Bool.true_and, show (true == false) = false from rfl]
      rw [decide_eq_decide, ← e1]
      have := Int.mul_nonpos_of_nonpos_of_nonneg (Int.le_of_lt h1) h2
      omega
    · rw [decide_eq_false (Int.not_lt.2 h1), decide_eq_true h2]
      simp only [Bool.not_false, Bool.true_and, show (false == true) = false from rfl]
      rw [decide_eq_decide, ← e1]
      have := Int.mul_nonpos_of_nonneg_of_nonpos h1 (Int.le_of_lt h2)
      omega
    · have h3 : ¬ a * b < 0 := Int.not_lt.2 (Int.mul_nonneg h1 h2)
      rw [decide_eq_false (Int.not_lt.2 h1), decide_eq_false (Int.not_lt.2 h2), decide_eq_false h3]; rfl
  refine ⟨⟨A', c', ?_, ?_⟩, hw⟩
  · unfold dn; rw [e1, ← e2]
  · unfold WD dn dd; rw [e1]; exact ⟨hd, hc⟩
end Go.Proofs.YtkbkjbnfkgncdaaDoor.TickW
