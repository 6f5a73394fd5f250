/- Plain mathematics: the number that hexadecimal digits say. -/
import Derived.Test.YtgcmjmnolkojhaaDoorNumHex
namespace Go.Proofs.YtgcmjmnolkojhaaDoor.NumP
/-- A letter's small form, as a byte's bit. -/
def lw (c : Nat) : Nat := c ||| 32
/-- A digit's value. -/
def hd (c : Nat) : Option Nat := if 48 ≤ c ∧ c ≤ 57 then some (c - 48) else if 97 ≤ lw c ∧ lw c ≤ 102 then some (lw c - 87) else none
def pv (acc : Nat) : List UInt8 → Option Nat
  | [] => some acc
  | c :: r => match hd c.toNat with
    | some d => pv (acc * 16 + d) r
    | none => none
theorem or32 (c : Nat) (h : c < 256) : bits .or .u8 (c : Int) 32 = (lw c : Int) := by
  have e := u8_or_nat c 32 h (by decide)
  have e2 : ((32 : Nat) : Int) = 32 := rfl
  rw [e2] at e
  exact e
theorem lw_lt (c : Nat) (h : c < 256) : lw c < 256 := Nat.or_lt_two_pow (n := 8) h (by decide)
theorem pv_digit {acc : Nat} {c : UInt8} {r : List UInt8} (h : 48 ≤ c.toNat ∧ c.toNat ≤ 57) : pv acc (c :: r) = pv (acc * 16 + (c.toNat - 48)) r := by
  have e : hd c.toNat = some (c.toNat - 48) := by unfold hd; rw [if_pos h]
  show (match hd c.toNat with | some d => pv (acc * 16 + d) r | none => none) = _
  rw [e]
theorem pv_letter {acc : Nat} {c : UInt8} {r : List UInt8} (h : ¬ (48 ≤ c.toNat ∧ c.toNat ≤ 57)) (h2 : 97 ≤ lw c.toNat ∧ lw c.toNat ≤ 102) : pv acc (c :: r) = pv (acc * 16 + (lw c.toNat - 87)) r := by
  have e : hd c.toNat = some (lw c.toNat - 87) := by unfold hd; rw [if_neg h, if_pos h2]
  show (match hd c.toNat with | some d => pv (acc * 16 + d) r | none => none) = _
  rw [e]
theorem pv_none {acc : Nat} {c : UInt8} {r : List UInt8} (h : ¬ (48 ≤ c.toNat ∧ c.toNat ≤ 57)) (h2 : ¬ (97 ≤ lw c.toNat ∧ lw c.toNat ≤ 102)) : pv acc (c :: r) = none := by
  have e : hd c.toNat = none := by unfold hd; rw [if_neg h, if_neg h2]
  show (match hd c.toNat with | some d => pv (acc * 16 + d) r | none => none) = _
  rw [e]
theorem lw_small (n : Nat) (h : n < 58) : lw n < 64 := by
  have : ∀ n, n < 58 → lw n < 64 := by decide
  exact this n h
/-- The ways of a byte that is no digit. -/
theorem none_ways (n : Nat) (h : ¬ (48 ≤ n ∧ n ≤ 57)) (h2 : ¬ (97 ≤ lw n ∧ lw n ≤ 102)) :
    (57 < n ∧ ¬ n = 95 ∧ 103 ≤ lw n ∧ lw n ≤ 122) ∨ n = 95 ∨ (n < 48 ∧ lw n < 64) ∨ (57 < n ∧ ¬ n = 95 ∧ lw n < 97) ∨ (57 < n ∧ ¬ n = 95 ∧ 122 < lw n) := by
  by_cases h5 : n = 95
  · exact Or.inr (Or.inl h5)
  · by_cases h58 : n < 58
    · have := lw_small n h58
      omega
    · omega
theorem letter_above (n : Nat) (h : 97 ≤ lw n) : 57 < n := by
  rcases Nat.lt_or_ge n 58 with h5 | h5
  · have := lw_small n h5; omega
  · omega
theorem hd_lt (c d : Nat) (h : hd c = some d) : d < 16 := by
  unfold hd at h
  split at h
  · cases h; omega
  · split at h
    · cases h; omega
    · cases h
theorem pv_lt (l : List UInt8) : ∀ (k acc n : Nat), acc < 16 ^ k → pv acc l = some n → n < 16 ^ (k + l.length) := by
  induction l with
  | nil => intro k acc n h e; cases e; simpa using h
  | cons c r ih =>
    intro k acc n h e
    have e' : (match hd c.toNat with | some d => pv (acc * 16 + d) r | none => none) = some n := e
    cases hc : hd c.toNat with
    | none => rw [hc] at e'; cases e'
    | some d =>
      rw [hc] at e'
      have := ih (k + 1) (acc * 16 + d) n (by have := hd_lt _ _ hc; rw [Nat.pow_succ]; omega) e'
      rw [List.length_cons, show k + (r.length + 1) = k + 1 + r.length by omega]
      exact this
end Go.Proofs.YtgcmjmnolkojhaaDoor.NumP
