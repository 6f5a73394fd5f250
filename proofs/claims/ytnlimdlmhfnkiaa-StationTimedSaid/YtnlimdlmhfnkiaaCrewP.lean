/- Plain mathematics of crews: sets of six hosts as numbers; their texts. -/
import Derived.WalkKit
import Derived.Lib.TrailingZeros
namespace Go.Proofs.Ytnlimdlmhfnkiaa.CrewW
/-- The crew of one number. -/
def only (h : Int) : Nat := if 0 ≤ h ∧ h < 6 then 2 ^ h.toNat else 0
/-- Is the host in the crew? -/
def has (c : Nat) (h : Int) : Bool := decide (0 ≤ h ∧ h < 6) && c.testBit h.toNat
/-- The number whose bits below n are as p says. -/
def mk (p : Nat → Bool) : Nat → Nat
  | 0 => 0
  | n + 1 => if p n then mk p n + 2 ^ n else mk p n
/-- The crew of those that are hosts. -/
def of (l : List Int) : Nat := mk (fun h => l.contains (h : Int)) 6
/-- The hosts below n that are in the crew, rising. -/
def memTo (c n : Nat) : List Int := ((List.range n).filter fun h => c.testBit h).map fun h : Nat => (h : Int)
def mem (c : Nat) : List Int := memTo c 6
/-- The numbers with commas between. -/
def txt : List Int → List Int
  | [] => []
  | x :: xs => (48 + x) :: xs.flatMap fun y => [44, 48 + y]
def prt (c : Nat) : List Int := if mem c = [] then [45] else txt (mem c)
/-- The crew of a text's digits. -/
def dg (s : List Int) : Nat := of (s.map (· - 48))
def prs (s : List Int) : Nat × Int := if prt (dg s) = s then (dg s, 0) else (0, 2)
theorem mk_lt (p : Nat → Bool) : ∀ n, mk p n < 2 ^ n
  | 0 => by simp [mk]
  | n + 1 => by
    have := mk_lt p n
    unfold mk
    rw [Nat.pow_succ]
    split <;> omega
theorem mk_bit (p : Nat → Bool) : ∀ n h, (mk p n).testBit h = (decide (h < n) && p h)
  | 0, h => by simp [mk]
  | n + 1, h => by
    have ih := mk_bit p n h
    have hl := mk_lt p n
    unfold mk
    split
    · rename_i hp
      rw [Nat.add_comm]
      rcases Nat.lt_trichotomy h n with h1 | h1 | h1
      · rw [Nat.testBit_two_pow_add_gt h1, ih]
        simp [h1, show h < n + 1 by omega]
      · subst h1
        rw [Nat.testBit_two_pow_add_eq, Nat.testBit_lt_two_pow hl]
        simp [hp]
      · rw [Nat.testBit_lt_two_pow (x := 2 ^ n + mk p n) (i := h) (Nat.lt_of_lt_of_le (show 2 ^ n + mk p n < 2 ^ (n + 1) by rw [Nat.pow_succ]; omega) (Nat.pow_le_pow_right (by decide) h1))]
        simp [show ¬ h < n + 1 by omega]
    · rename_i hp
      rw [ih]
      rcases Nat.lt_trichotomy h n with h1 | h1 | h1
      · simp [h1, show h < n + 1 by omega]
      · subst h1; simp [hp]
      · simp [show ¬ h < n + 1 by omega, show ¬ h < n by omega]
theorem mk_add {p : Nat → Bool} {n : Nat} (h : p n = true) : mk p n + 2 ^ n = mk p (n + 1) := by
  show _ = if p n then _ else _
  rw [if_pos h]
theorem mk_same {p : Nat → Bool} {n : Nat} (h : p n = false) : mk p n = mk p (n + 1) := by
  show _ = if p n then _ else _
  rw [if_neg (by rw [h]; decide)]
theorem of_lt (l : List Int) : of l < 64 := mk_lt _ 6
theorem of_bit (l : List Int) (h : Nat) : (of l).testBit h = (decide (h < 6) && l.contains (h : Int)) := mk_bit _ 6 h
theorem only_lt (h : Int) : only h < 64 := by
  unfold only
  split
  · have := Nat.pow_lt_pow_right (a := 2) (m := h.toNat) (n := 6) (by decide) (by omega)
    omega
  · decide
theorem only_bit (x : Int) (h : Nat) : (only x).testBit h = (decide (h < 6) && decide (x = (h : Int))) := by
  unfold only
  split
  · rw [Nat.testBit_two_pow]
    by_cases e : x = (h : Int)
    · simp [e]; omega
    · simp [e]; omega
  · simp; omega
theorem of_snoc (l : List Int) (x : Int) : of (l ++ [x]) = of l ||| only x := by
  apply Nat.eq_of_testBit_eq
  intro i
  rw [Nat.testBit_or, of_bit, of_bit, only_bit]
  cases hd : decide (i < 6) <;> simp
  by_cases e : (i : Int) = x
  · simp [e]
  · simp [e, show ¬ x = (i : Int) from fun h => e h.symm]
theorem of_one (x : Int) : of [x] = only x := by
  have := of_snoc [] x
  rw [List.nil_append] at this
  rw [this, show of [] = 0 from rfl, Nat.zero_or]
theorem has_only (c : Nat) (h : Int) : ((c &&& only h) ≠ 0) ↔ has c h = true := by
  unfold has
  by_cases hh : 0 ≤ h ∧ h < 6
  · obtain ⟨k, rfl⟩ := Int.eq_ofNat_of_zero_le hh.1
    rw [show only (k : Int) = 2 ^ k by unfold only; rw [if_pos hh]; rfl]
    have e : c &&& 2 ^ k = if c.testBit k then 2 ^ k else 0 := by
      apply Nat.eq_of_testBit_eq
      intro i
      rw [Nat.testBit_and, Nat.testBit_two_pow]
      by_cases hi : k = i
      · subst hi; cases c.testBit k <;> simp
      · cases hc : c.testBit k <;> simp [hi]
    rw [e]
    simp only [hh, and_self, decide_true, Bool.true_and, Int.toNat_natCast, ne_eq]
    cases hb : c.testBit k
    · simp
    · simp
  · rw [show only h = 0 by unfold only; rw [if_neg hh], Nat.and_zero]
    simp [hh]
theorem has_nat (c k : Nat) (h : k < 6) : has c (k : Int) = c.testBit k := by
  unfold has
  simp; omega
theorem has_big (c : Nat) (h : Int) (hh : ¬ (0 ≤ h ∧ h < 6)) : has c h = false := by
  unfold has
  simp [hh]
/-- The half of a number, so often. -/
theorem has_div (c k : Nat) (h : k < 6) : has c (k : Int) = decide (c / 2 ^ k % 2 = 1) := by
  rw [has_nat c k h, Nat.testBit_eq_decide_div_mod_eq]
theorem range_succ (p : Nat → Bool) (n : Nat) : ((List.range (n + 1)).filter p).map (fun h : Nat => (h : Int)) = if p n then ((List.range n).filter p).map (fun h : Nat => (h : Int)) ++ [(n : Int)] else ((List.range n).filter p).map (fun h : Nat => (h : Int)) := by
  rw [List.range_succ, List.filter_append, List.map_append]
  cases h : p n <;> simp [h]
end Go.Proofs.Ytnlimdlmhfnkiaa.CrewW

