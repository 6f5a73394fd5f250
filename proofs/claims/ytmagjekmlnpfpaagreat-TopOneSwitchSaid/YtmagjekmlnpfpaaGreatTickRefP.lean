/- Plain mathematics: the document's numbers, as digits of 16 bits, the lowest first. -/
import Derived.WalkKit
namespace Go.Proofs.YtmagjekmlnpfpaaGreat.TickW
/-- The digits of a size, the lowest first, without noughts ahead. -/
def dl (m : Nat) : List Nat := if h : m = 0 then [] else m % 65536 :: dl (m / 65536)
termination_by m
decreasing_by omega
def val : List Nat → Nat
  | [] => 0
  | d :: r => d + 65536 * val r
theorem dl_zero : dl 0 = [] := by rw [dl, dif_pos rfl]
theorem dl_pos {m : Nat} (h : 0 < m) : dl m = m % 65536 :: dl (m / 65536) := by rw [dl, dif_neg (by omega)]
theorem dl_length_le {m n : Nat} (h : m < 65536 ^ n) : (dl m).length ≤ n := by
  induction n generalizing m with
  | zero => have : m = 0 := by simpa using h
            rw [this, dl_zero]; exact Nat.le_refl _
  | succ n ih =>
    rcases Nat.eq_zero_or_pos m with rfl | hp
    · rw [dl_zero]; exact Nat.zero_le _
    · rw [dl_pos hp, List.length_cons]
      have := ih (m := m / 65536) (by rw [Nat.pow_succ] at h; omega)
      omega
/-- The k-th digit. -/
theorem dl_get (m k : Nat) : (dl m)[k]? = if 0 < m / 65536 ^ k then some (m / 65536 ^ k % 65536) else none := by
  induction k generalizing m with
  | zero =>
    rw [Nat.pow_zero, Nat.div_one]
    rcases Nat.eq_zero_or_pos m with rfl | h
    · rw [dl_zero]; rfl
    · rw [dl_pos h, if_pos h]; rfl
  | succ k ih =>
    have e : m / 65536 ^ (k + 1) = m / 65536 / 65536 ^ k := by rw [Nat.pow_succ, Nat.mul_comm, ← Nat.div_div_eq_div_mul]
    rcases Nat.eq_zero_or_pos m with rfl | h
    · rw [dl_zero, Nat.zero_div]; simp
    · rw [dl_pos h, List.getElem?_cons_succ, ih, e]
/-- So many digits as there are powers not above. -/
theorem dl_lt_length (m k : Nat) : k < (dl m).length ↔ 0 < m / 65536 ^ k := by
  have h := dl_get m k
  constructor
  · intro hk
    rw [List.getElem?_eq_getElem hk] at h
    by_cases h2 : 0 < m / 65536 ^ k
    · exact h2
    · rw [if_neg h2] at h; cases h
  · intro hp
    rw [if_pos hp] at h
    rcases Nat.lt_or_ge k (dl m).length with h2 | h2
    · exact h2
    · rw [List.getElem?_eq_none h2] at h; cases h
theorem dl_take_succ (m k : Nat) (h : k < (dl m).length) : (dl m).take (k + 1) = (dl m).take k ++ [m / 65536 ^ k % 65536] := by
  rw [List.take_add_one, dl_get, if_pos ((dl_lt_length m k).1 h)]
  rfl
end Go.Proofs.YtmagjekmlnpfpaaGreat.TickW


