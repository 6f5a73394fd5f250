/- Plain mathematics of crews: sets of six hosts as numbers; their texts. -/
import Derived.WalkKit
import Derived.Lib.TrailingZeros
namespace Go.Proofs.YtigehmlfdbejaaaDoor.CrewW
/-- The crew of one number. -/
def only (h : Int) : Nat := if 0 ≤ h ∧ h < 6 then 2 ^ h.toNat else 0
/-- Is the host in the crew? -/
def has (c : Nat) (h : Int) : Bool := decide (0 ≤ h ∧ h < 6) && c.testBit h.toNat
/-- The number whose bits below n are as p says. -/
def mk (p : Nat → Bool) : Nat → Nat
  | 0 => 0
  | n + 1 => if p n then mk p n + 2 ^ n else mk p n
/-- The crew of those that are hosts. -/
def of (l : List Int) : Nat := mk (fun h => l.contains (h : Int)) 6
/-- The hosts below n that are in the crew, rising. -/
def memTo (c n : Nat) : List Int := ((List.range n).filter fun h => c.testBit h).map fun h : Nat => (h : Int)
def mem (c : Nat) : List Int := memTo c 6
def fst (c : Nat) : Int := (mem c).headD (-1)
theorem mk_lt (p : Nat → Bool) : ∀ n, mk p n < 2 ^ n
  | 0 => by simp [mk]
  | n + 1 => by
    have := mk_lt p n
    unfold mk
    rw [Nat.pow_succ]
    split <;> omega
theorem mk_bit (p : Nat → Bool) : ∀ n h, (mk p n).testBit h = (decide (h < n) && p h)
  | 0, h => by simp [mk]
  | n + 1, h => by
    have ih := mk_bit p n h
    have hl := mk_lt p n
    unfold mk
    split
    · rename_i hp
      rw [Nat.add_comm]
      rcases Nat.lt_trichotomy h n with h1 | h1 | h1
      · rw [Nat.testBit_two_pow_add_gt h1, ih]
        simp [h1, show h < n + 1 by omega]
      · subst h1
        rw [Nat.testBit_two_pow_add_eq, Nat.testBit_lt_two_pow hl]
        simp [hp]
      · rw [Nat.testBit_lt_two_pow (x := 2 ^ n + mk p n) (i := h) (Nat.lt_of_lt_of_le (show 2 ^ n + mk p n < 2 ^ (n + 1) by rw [Nat.pow_succ]; omega) (Nat.pow_le_pow_right (by decide) h1))]
        simp [show ¬ h < n + 1 by omega]
    · rename_i hp
      rw [ih]
      rcases Nat.lt_trichotomy h n with h1 | h1 | h1
      · simp [h1, show h < n + 1 by omega]
      · subst h1; simp [hp]
      · simp [show ¬ h < n + 1 by omega, show ¬ h < n by omega]
theorem mk_add {p : Nat → Bool} {n : Nat} (h : p n = true) : mk p n + 2 ^ n = mk p (n + 1) := by
  show _ = if p n then _ else _
  rw [if_pos h]
theorem mk_same {p : Nat → Bool} {n : Nat} (h : p n = false) : mk p n = mk p (n + 1) := by
  show _ = if p n then _ else _
  rw [if_neg (by rw [h]; decide)]
theorem of_lt (l : List Int) : of l < 64 := mk_lt _ 6
theorem of_bit (l : List Int) (h : Nat) : (of l).testBit h = (decide (h < 6) && l.contains (h : Int)) := mk_bit _ 6 h
theorem only_lt (h : Int) : only h < 64 := by
  unfold only
  split
  · have := Nat.pow_lt_pow_right (a := 2) (m := h.toNat) (n := 6) (by decide) (by omega)
    omega
  · decide
theorem only_bit (x : Int) (h : Nat) : (only x).testBit h = (decide (h < 6) && decide (x = (h : Int))) := by
  unfold only
  split
  · rw [Nat.testBit_two_pow]
    by_cases e : x = (h : Int)
    · simp [e]; omega
    · simp [e]; omega
  · simp; omega
theorem of_snoc (l : List Int) (x : Int) : of (l ++ [x]) = of l ||| only x := by
  apply Nat.eq_of_testBit_eq
  intro i
  rw [Nat.testBit_or, of_bit, of_bit, only_bit]
  cases hd : decide (i < 6) <;> simp
  by_cases e : (i : Int) = x
  · simp [e]
  · simp [e, show ¬ x = (i : Int) from fun h => e h.symm]
theorem of_one (x : Int) : of [x] = only x := by
  have := of_snoc [] x
  rw [List.nil_append] at this
  rw [this, show of [] = 0 from rfl, Nat.zero_or]
theorem bit_mod (c h : Nat) (hh : h < 6) : (c % 64).testBit h = c.testBit h := by
  rw [show 64 = 2 ^ 6 from rfl, Nat.testBit_mod_two_pow]
  simp [hh]
theorem memTo_mod (c : Nat) : ∀ n, n ≤ 6 → memTo (c % 64) n = memTo c n := by
  intro n hn
  unfold memTo
  congr 1
  apply List.filter_congr
  intro h hh
  rw [List.mem_range] at hh
  exact bit_mod c h (by omega)
theorem mem_mod (c : Nat) : mem (c % 64) = mem c := memTo_mod c 6 (by decide)
theorem memTo_succ (c n : Nat) : memTo c (n + 1) = if c.testBit n then memTo c n ++ [(n : Int)] else memTo c n := by
  unfold memTo
  rw [List.range_succ, List.filter_append, List.map_append]
  cases h : c.testBit n <;> simp [h]
theorem memTo_len (c : Nat) : ∀ n, (memTo c n).length ≤ n := by
  intro n
  unfold memTo
  rw [List.length_map]
  exact Nat.le_trans (List.length_filter_le _ _) (by simp)
theorem mem_len (c : Nat) : (mem c).length ≤ 6 := memTo_len c 6
theorem memTo_range {c n : Nat} {x : Int} (h : x ∈ memTo c n) : ∃ k : Nat, x = (k : Int) ∧ k < n ∧ c.testBit k = true := by
  unfold memTo at h
  obtain ⟨k, hk, rfl⟩ := List.mem_map.1 h
  rw [List.mem_filter, List.mem_range] at hk
  exact ⟨k, rfl, hk.1, hk.2⟩
theorem mem_iff (c : Nat) (k : Nat) : ((k : Int) ∈ mem c) ↔ (k < 6 ∧ c.testBit k = true) := by
  constructor
  · intro h
    obtain ⟨j, e, h1, h2⟩ := memTo_range h
    obtain rfl : k = j := by omega
    exact ⟨h1, h2⟩
  · rintro ⟨h1, h2⟩
    exact List.mem_map.2 ⟨k, List.mem_filter.2 ⟨List.mem_range.2 h1, h2⟩, rfl⟩
theorem of_mem (c : Nat) : of (mem c) = c % 64 := by
  apply Nat.eq_of_testBit_eq
  intro i
  rw [of_bit, show 64 = 2 ^ 6 from rfl, Nat.testBit_mod_two_pow]
  by_cases h : i < 6
  · have := mem_iff c i
    cases hb : c.testBit i
    · simp [h, hb, this]
    · simp [h, hb, this]
  · simp [h]
theorem has_nat (c k : Nat) (h : k < 6) : has c (k : Int) = c.testBit k := by
  unfold has
  simp; omega
theorem has_big (c : Nat) (h : Int) (hh : ¬ (0 ≤ h ∧ h < 6)) : has c h = false := by
  unfold has
  simp [hh]
/-- The half of a number, so often. -/
theorem has_div (c k : Nat) (h : k < 6) : has c (k : Int) = decide (c / 2 ^ k % 2 = 1) := by
  rw [has_nat c k h, Nat.testBit_eq_decide_div_mod_eq]
theorem range_succ (p : Nat → Bool) (n : Nat) : ((List.range (n + 1)).filter p).map (fun h : Nat => (h : Int)) = if p n then ((List.range n).filter p).map (fun h : Nat => (h : Int)) ++ [(n : Int)] else ((List.range n).filter p).map (fun h : Nat => (h : Int)) := by
  rw [List.range_succ, List.filter_append, List.map_append]
  cases h : p n <;> simp [h]
theorem fst_none {c : Nat} (h : c % 64 = 0) : fst c = -1 := by
  unfold fst
  rw [← mem_mod, h]
  rfl
open Go.Lib in
theorem ctz_low (n k c : Nat) (h : c % 2 ^ n ≠ 0) : ctzFrom (n + k) c = ctzFrom n (c % 2 ^ n) := by
  induction n generalizing c with
  | zero => rw [Nat.pow_zero, Nat.mod_one] at h; exact absurd rfl h
  | succ n ih =>
    rw [Nat.succ_add_eq_add_succ]
    show ctzFrom (n + (k + 1)) c = _
    have e : n + (k + 1) = (n + k) + 1 := by omega
    rw [e]
    unfold ctzFrom
    have h1 : c % 2 ^ (n + 1) % 2 = c % 2 := Nat.mod_mod_of_dvd c ⟨2 ^ n, by rw [Nat.pow_succ, Nat.mul_comm]⟩
    have h2 : c % 2 ^ (n + 1) / 2 = c / 2 % 2 ^ n := by
      rw [Nat.pow_succ, Nat.mul_comm, Nat.mod_mul_right_div_self]
    rw [h1, h2]
    split
    · rfl
    · rename_i h3
      rw [ih (c / 2) (by rw [← h2]; omega)]
theorem fst_low : ∀ r, r < 64 → r ≠ 0 → fst r = (Go.Lib.ctzFrom 6 r : Int) := by decide +kernel
theorem fst_some {c : Nat} (h : c % 64 ≠ 0) : fst c = ((Go.Lib.ctz 32 c : Nat) : Int) := by
  have hc : c ≠ 0 := fun e => h (by rw [e])
  unfold Go.Lib.ctz
  rw [if_neg hc, show (32 : Nat) = 6 + 26 from rfl, ctz_low 6 26 c h, ← fst_low _ (Nat.mod_lt _ (by decide)) h]
  unfold fst
  rw [mem_mod]
theorem fst_le (c : Nat) : -1 ≤ fst c ∧ fst c < 6 := by
  unfold fst
  rcases hm : mem c with _ | ⟨x, xs⟩
  · decide
  · obtain ⟨k, rfl, h, -⟩ := memTo_range (c := c) (n := 6) (x := x) (by show x ∈ mem c; rw [hm]; exact List.mem_cons_self)
    simp
    omega
theorem and63 (c : Nat) : c &&& 63 = c % 64 := Nat.and_two_pow_sub_one_eq_mod c 6
end Go.Proofs.YtigehmlfdbejaaaDoor.CrewW

