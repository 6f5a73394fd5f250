/- Plain mathematics of means of float64: numbers that are no infinity; their sum is a number; so is a quotient by a count. -/
import Derived.Test.YtelfbjldfdlpnaaNumInt
import Derived.Test.YtelfbjldfdlpnaaNumWalk5
namespace Go.Proofs.Ytelfbjldfdlpnaa.MeanW
open Go.RowKit NumP NumW
/-- A number that is no infinity. -/
def fin (x : Nat) : Bool := decide (mag x < 9218868437227405312)
def fins (xs : List Nat) : List Nat := xs.filter fin
theorem fin_true {x : Nat} : fin x = true ↔ mag x < 9218868437227405312 := by unfold fin; exact decide_eq_true_iff
theorem fin_false {x : Nat} : fin x = false ↔ ¬ mag x < 9218868437227405312 := by unfold fin; exact decide_eq_false_iff_not
theorem word_mag (s : Bool) (r : Nat) (h : r ≤ 9218868437227405312) : mag (Ieee.double.word s r) = r ∧ Ieee.double.word s r < 18446744073709551616 := by
  have e1 : Ieee.double.signWeight = 9223372036854775808 := by decide
  unfold Ieee.Format.word mag
  rw [e1]
  cases s
  · simp; omega
  · simp; omega
theorem nearest_word (s : Bool) (m : Nat) (p : Int) : ∃ q, Ieee.double.nearest s m p = Ieee.double.word s (min q Ieee.double.infRung) := by
  unfold Ieee.Format.nearest
  split
  · exact ⟨0, rfl⟩
  · exact ⟨_, rfl⟩
theorem write_num (s : Bool) (m : Nat) (p : Int) : mag (Ieee.double.write (.number s m p)) ≤ 9218868437227405312 ∧ Ieee.double.write (.number s m p) < 18446744073709551616 := by
  have e3 : Ieee.double.infRung = 9218868437227405312 := by decide
  obtain ⟨q, hq⟩ := nearest_word s m p
  show mag (Ieee.double.nearest s m p) ≤ _ ∧ Ieee.double.nearest s m p < _
  rw [hq, e3]
  have := word_mag s (min q 9218868437227405312) (Nat.min_le_right _ _)
  omega
theorem write_inf (s : Bool) : mag (Ieee.double.write (.infinity s)) ≤ 9218868437227405312 ∧ Ieee.double.write (.infinity s) < 18446744073709551616 := by
  have e3 : Ieee.double.infRung = 9218868437227405312 := by decide
  show mag (Ieee.double.word s Ieee.double.infRung) ≤ _ ∧ Ieee.double.word s Ieee.double.infRung < _
  rw [e3]
  have := word_mag s 9218868437227405312 (Nat.le_refl _)
  omega
/-- A number or an infinity, and a number, have a sum. -/
theorem add_ok {s x : Nat} (hs : mag s ≤ 9218868437227405312) (hx : mag x < 9218868437227405312) : ∃ r, FloatKind.f64.format.add s x = some r ∧ mag r ≤ 9218868437227405312 ∧ r < 18446744073709551616 := by
  obtain ⟨m, k, e, _⟩ := read_number x hx
  show ∃ r, Ieee.double.add s x = some r ∧ _
  unfold Ieee.Format.add
  rw [e]
  rcases Nat.lt_or_ge (mag s) 9218868437227405312 with h | h
  · obtain ⟨n, l, e2, _⟩ := read_number s h
    rw [e2]
    exact ⟨_, rfl, write_num _ _ _⟩
  · rw [read_inf s (Nat.le_antisymm hs h)]
    exact ⟨_, rfl, write_inf _⟩
theorem sum_num (xs : List Nat) (h : ∀ x ∈ xs, mag x < 9218868437227405312) : ∀ s, mag s ≤ 9218868437227405312 → s < 18446744073709551616 → ∃ r, xs.foldl sumF (some s) = some r ∧ mag r ≤ 9218868437227405312 ∧ r < 18446744073709551616 := by
  induction xs with
  | nil => intro s h1 h2; exact ⟨s, rfl, h1, h2⟩
  | cons x xs ih =>
    intro s h1 h2
    obtain ⟨r, hr, h3, h4⟩ := add_ok h1 (h x (List.mem_cons_self ..))
    rw [List.foldl_cons, show sumF (some s) x = some r from hr]
    exact ih (fun y hy => h y (List.mem_cons_of_mem _ hy)) r h3 h4
/-- The sum of those that are numbers and no infinities. -/
def sumR (xs : List Nat) : Nat := (sumO (fins xs)).getD 0
theorem sum_fins (xs : List Nat) : sumO (fins xs) = some (sumR xs) ∧ mag (sumR xs) ≤ 9218868437227405312 ∧ sumR xs < 18446744073709551616 := by
  obtain ⟨r, hr, h1, h2⟩ := sum_num (fins xs) (fun x hx => fin_true.1 (List.mem_filter.1 hx).2) 0 (by decide) (by decide)
  have e : sumO (fins xs) = some r := hr
  unfold sumR
  rw [e]
  exact ⟨rfl, h1, h2⟩
theorem sumN_fins (xs : List Nat) : sumN (fins xs) = sumR xs := by
  obtain ⟨h, h1, _⟩ := sum_fins xs
  unfold sumN
  rw [h]
  exact one_num _ (by omega)
theorem pos_pow {a n : Nat} (k : Nat) (h : a = n * 2 ^ k) (h0 : 0 < n) : 0 < a := by rw [h]; exact Nat.mul_pos h0 (Nat.two_pow_pos _)
/-- A count as a float64: above 0, no infinity. -/
theorem count_ok (n : Nat) (h0 : 0 < n) (h1 : n < 9007199254740992) : ∃ r, floatOfInt .f64 (n : Int) = r ∧ mag r < 9218868437227405312 ∧ 0 < val (mag r) := by
  have hlog : n.log2 ≤ 52 := by
    have := (Nat.log2_lt (show n ≠ 0 by omega)).2 (show n < 2 ^ 53 by omega)
    omega
  obtain ⟨r, hr, hv, hi⟩ := nearest_exact false n 1074 (by omega) (by rw [show n.log2 - 52 = 0 by omega]; exact Nat.one_dvd n) (by omega)
  refine ⟨_, rfl, ?_⟩
  have e : floatOfInt .f64 (n : Int) = Ieee.double.nearest false n 0 := by
    show Ieee.double.write (.number (decide ((n : Int) < 0)) (n : Int).natAbs 0) = _
    rw [show decide ((n : Int) < 0) = false by rw [decide_eq_false_iff_not]; omega]
    rfl
  rw [show (-1074 + ((1074 : Nat) : Int)) = 0 by decide] at hr
  rw [e, hr, (word_mag false r (by omega)).1]
  exact ⟨hi, pos_pow 1074 hv h0⟩
/-- A number or an infinity, over a count. -/
theorem div_ok {s n : Nat} (hs : mag s ≤ 9218868437227405312) (h0 : 0 < n) (h1 : n < 9007199254740992) : ∃ r, FloatKind.f64.format.div s (floatOfInt .f64 (n : Int)) = some r ∧ mag r ≤ 9218868437227405312 ∧ r < 18446744073709551616 := by
  obtain ⟨d, hd, hm, hv⟩ := count_ok n h0 h1
  rw [hd]
  obtain ⟨m, k, e, hmk⟩ := read_number d hm
  have hne : m ≠ 0 := by
    intro h
    rw [h, Nat.zero_mul] at hmk
    omega
  show ∃ r, Ieee.double.div s d = some r ∧ _
  unfold Ieee.Format.div
  rw [e]
  rcases Nat.lt_or_ge (mag s) 9218868437227405312 with h | h
  · obtain ⟨a, l, e2, _⟩ := read_number s h
    rw [e2]
    unfold Ieee.Datum.quotient
    dsimp only
    rw [if_neg hne]
    exact ⟨_, rfl, write_num _ _ _⟩
  · rw [read_inf s (Nat.le_antisymm hs h)]
    exact ⟨_, rfl, write_inf _⟩
/-- The mean of those that are numbers and no infinities. -/
def meanR (xs : List Nat) : Nat := if fins xs = [] then 0 else (FloatKind.f64.format.div (sumR xs) (floatOfInt .f64 ((fins xs).length : Int))).getD 0
theorem mean_some {xs : List Nat} (h : 0 < (fins xs).length) (h1 : (fins xs).length < 9007199254740992) : FloatKind.f64.format.div (sumR xs) (floatOfInt .f64 ((fins xs).length : Int)) = some (meanR xs) ∧ mag (meanR xs) ≤ 9218868437227405312 ∧ meanR xs < 18446744073709551616 := by
  obtain ⟨r, hr, h2, h3⟩ := div_ok (sum_fins xs).2.1 h h1
  unfold meanR
  rw [if_neg (fun e => by rw [e] at h; exact absurd h (Nat.lt_irrefl 0)), hr]
  exact ⟨rfl, h2, h3⟩
theorem fins_step {xs : List Nat} {k x : Nat} (h : xs[k]? = some x) : fins (xs.take (k + 1)) = if fin x then fins (xs.take k) ++ [x] else fins (xs.take k) := by
  unfold fins
  rw [NumP.take_snoc h, List.filter_append]
  split
  · rename_i hf; simp [hf]
  · rename_i hf; simp [hf]
theorem fins_len (xs : List Nat) (k : Nat) (h : k ≤ xs.length) : (fins (xs.take k)).length ≤ k := by
  have := List.length_filter_le fin (xs.take k)
  rw [List.length_take, Nat.min_eq_left h] at this
  exact this
theorem fins_lt {xs : List Nat} (h : ∀ x ∈ xs, x < 18446744073709551616) : ∀ x ∈ fins xs, x < 18446744073709551616 := fun x hx => h x (List.mem_filter.1 hx).1
theorem fin_kind (x : Nat) : fin x = true ↔ (1 < kind x ∧ kind x < 8) := by
  rw [fin_true]
  unfold kind
  by_cases h1 : 9218868437227405312 < mag x
  · rw [if_pos h1]; omega
  · rw [if_neg h1]
    by_cases h2 : mag x = 9218868437227405312
    · rw [if_pos h2]; split <;> omega
    · rw [if_neg h2]
      repeat' split
      all_goals omega
end Go.Proofs.Ytelfbjldfdlpnaa.MeanW
