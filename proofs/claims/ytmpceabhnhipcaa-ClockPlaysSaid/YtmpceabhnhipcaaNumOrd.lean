/- Plain mathematics: how IEEE 754 orders two words of one sign: as their bits stand. -/
import Derived.Test.YtmpceabhnhipcaaNumPlain
namespace Go.Proofs.Ytmpceabhnhipcaa.NumP
/-- The magnitude of a rung, in the least unit. -/
def val (r : Nat) : Nat := if r < 4503599627370496 then r else (4503599627370496 + r % 4503599627370496) * 2 ^ (r / 4503599627370496 - 1)
theorem val_step (r : Nat) : val r < val (r + 1) := by
  unfold val
  by_cases h : r + 1 < 4503599627370496
  · rw [if_pos (by omega), if_pos h]; omega
  by_cases h1 : r < 4503599627370496
  · have e : r = 4503599627370495 := by omega
    subst e; decide
  rw [if_neg h1, if_neg h]
  by_cases h2 : r % 4503599627370496 = 4503599627370495
  · have e1 : (r + 1) % 4503599627370496 = 0 := by omega
    have e2 : (r + 1) / 4503599627370496 - 1 = (r / 4503599627370496 - 1) + 1 := by omega
    rw [e1, e2, h2, Nat.pow_succ]
    have : 0 < 2 ^ (r / 4503599627370496 - 1) := Nat.two_pow_pos _
    omega
  · have e1 : (r + 1) % 4503599627370496 = r % 4503599627370496 + 1 := by omega
    have e2 : (r + 1) / 4503599627370496 = r / 4503599627370496 := by omega
    rw [e1, e2]
    exact Nat.mul_lt_mul_of_pos_right (by omega) (Nat.two_pow_pos _)
theorem val_mono {r s : Nat} (h : r < s) : val r < val s := by
  induction s with
  | zero => omega
  | succ s ih =>
    by_cases e : r = s
    · subst e; exact val_step r
    · exact Nat.lt_trans (ih (by omega)) (val_step s)
theorem cmp_int (x y : Int) : compare x y = if x < y then .lt else if x = y then .eq else .gt := rfl
theorem cmp_nat (x y : Nat) : compare x y = if x < y then .lt else if x = y then .eq else .gt := rfl
/-- A word's datum, in the least unit. -/
theorem read_number (x : Nat) (h : mag x < 9218868437227405312) :
    ∃ m k : Nat, Ieee.double.read x = .number (x / 9223372036854775808 % 2 == 1) m (-1074 + (k : Int)) ∧ m * 2 ^ k = val (mag x) := by
  have e1 : Ieee.double.signWeight = 9223372036854775808 := by decide
  have e2 : Ieee.double.binade = 4503599627370496 := by decide
  have e3 : Ieee.double.infRung = 9218868437227405312 := by decide
  have e4 : Ieee.double.leastPlace = -1074 := by decide
  unfold Ieee.Format.read
  simp only [e1, e2, e3, e4]
  change ∃ m k : Nat, (if mag x < 4503599627370496 then _ else if mag x < 9218868437227405312 then _ else if mag x = 9218868437227405312 then _ else _) = _ ∧ _
  by_cases h1 : mag x < 4503599627370496
  · exact ⟨mag x, 0, by rw [if_pos h1]; rfl, by unfold val; rw [if_pos h1]; omega⟩
  · exact ⟨4503599627370496 + mag x % 4503599627370496, mag x / 4503599627370496 - 1, by rw [if_neg h1, if_pos h]; rfl, by unfold val; rw [if_neg h1]⟩
theorem read_inf (x : Nat) (h : mag x = 9218868437227405312) : Ieee.double.read x = .infinity (x / 9223372036854775808 % 2 == 1) := by
  have e1 : Ieee.double.signWeight = 9223372036854775808 := by decide
  have e2 : Ieee.double.binade = 4503599627370496 := by decide
  have e3 : Ieee.double.infRung = 9218868437227405312 := by decide
  unfold Ieee.Format.read
  simp only [e1, e2, e3]
  change (if mag x < 4503599627370496 then _ else if mag x < 9218868437227405312 then _ else if mag x = 9218868437227405312 then _ else _) = _
  rw [if_neg (by omega), if_neg (by omega), if_pos h]
theorem signed_val (s : Bool) (m k d : Nat) (h : d ≤ k) : Ieee.signed s m (k - d) * ((2 ^ d : Nat) : Int) = if s then -((m * 2 ^ k : Nat) : Int) else ((m * 2 ^ k : Nat) : Int) := by
  have e : m <<< (k - d) * 2 ^ d = m * 2 ^ k := by
    rw [Nat.shiftLeft_eq, Nat.mul_assoc, ← Nat.pow_add, Nat.sub_add_cancel h]
  unfold Ieee.signed
  cases s
  · simp only [Bool.false_eq_true, if_false]; rw [← Int.natCast_mul, e]
  · simp only [if_true]; rw [Int.neg_mul, ← Int.natCast_mul, e]
theorem cmp_scale (x y : Int) (c : Nat) (hc : 0 < c) : compare x y = compare (x * c) (y * c) := by
  have hc' : (0 : Int) < c := by omega
  rw [cmp_int, cmp_int]
  have e1 : x < y ↔ x * c < y * c := (Int.mul_lt_mul_right hc').symm
  have e2 : x = y ↔ x * c = y * c := ⟨fun h => by rw [h], fun h => Int.eq_of_mul_eq_mul_right (by omega) h⟩
  simp only [← e1, ← e2]
theorem order_numbers (s t : Bool) (m k n l : Nat) (L : Int) :
    Ieee.Datum.order (.number s m (L + (k : Int))) (.number t n (L + (l : Int))) = some (compare (if s then -((m * 2 ^ k : Nat) : Int) else ((m * 2 ^ k : Nat) : Int)) (if t then -((n * 2 ^ l : Nat) : Int) else ((n * 2 ^ l : Nat) : Int))) := by
  show some (compare (Ieee.signed s m _) (Ieee.signed t n _)) = _
  have e1 : (L + (k : Int) - min (L + (k : Int)) (L + (l : Int))).toNat = k - min k l := by omega
  have e2 : (L + (l : Int) - min (L + (k : Int)) (L + (l : Int))).toNat = l - min k l := by omega
  rw [e1, e2, cmp_scale _ _ (2 ^ min k l) (Nat.two_pow_pos _), signed_val s m k _ (by omega), signed_val t n l _ (by omega)]
/-- The sign of a word. -/
def sgn (x : Nat) : Bool := x / 9223372036854775808 % 2 == 1
/-- A word's value in the least unit, an infinity's too. -/
def fval (x : Nat) : Int := if sgn x then -(val (mag x) : Int) else (val (mag x) : Int)
theorem order_fval (a b : Nat) (ha : mag a ≤ 9218868437227405312) (hb : mag b ≤ 9218868437227405312) : Ieee.double.order a b = some (compare (fval a) (fval b)) := by
  have vi : ∀ x, mag x < 9218868437227405312 → val (mag x) < val 9218868437227405312 := fun x h => val_mono h
  unfold Ieee.Format.order
  by_cases h1 : mag a = 9218868437227405312
  · by_cases h2 : mag b = 9218868437227405312
    · rw [read_inf a h1, read_inf b h2]
      show some (compare (sgn b).toNat (sgn a).toNat) = _
      have hp : val 0 < val 9218868437227405312 := val_mono (by omega)
      unfold fval
      rw [h1, h2, cmp_nat, cmp_int]
      generalize val 9218868437227405312 = v at hp ⊢
      cases sgn a <;> cases sgn b <;> simp only [Bool.false_eq_true, if_true, if_false, Bool.toNat_true, Bool.toNat_false] <;> (repeat' split) <;> first | rfl | omega
    · obtain ⟨n, l, hr, hv⟩ := read_number b (by omega)
      have h3 := vi b (by omega)
      rw [read_inf a h1, hr]
      show some (if sgn a = true then Ordering.lt else .gt) = _
      unfold fval
      rw [h1, cmp_int]
      generalize val 9218868437227405312 = v at h3 ⊢
      generalize val (mag b) = u at h3 ⊢
      cases sgn a <;> cases sgn b <;> simp only [Bool.false_eq_true, if_true, if_false] <;> (repeat' split) <;> first | rfl | omega
  · obtain ⟨m, k, hr, hv⟩ := read_number a (by omega)
    by_cases h2 : mag b = 9218868437227405312
    · have h3 := vi a (by omega)
      rw [read_inf b h2, hr]
      show some (if sgn b = true then Ordering.gt else .lt) = _
      unfold fval
      rw [h2, cmp_int]
      generalize val 9218868437227405312 = v at h3 ⊢
      generalize val (mag a) = u at h3 ⊢
      cases sgn a <;> cases sgn b <;> simp only [Bool.false_eq_true, if_true, if_false] <;> (repeat' split) <;> first | rfl | omega
    · obtain ⟨n, l, hr2, hv2⟩ := read_number b (by omega)
      rw [hr, hr2, order_numbers, hv, hv2]
      rfl
theorem sgn_eq (x : Nat) (hx : x < 18446744073709551616) : sgn x = decide (9223372036854775808 ≤ x) := by
  unfold sgn
  by_cases h : 9223372036854775808 ≤ x
  · have e : x / 9223372036854775808 = 1 := by omega
    rw [e, decide_eq_true h]; rfl
  · have e : x / 9223372036854775808 = 0 := by omega
    rw [e, decide_eq_false h]; rfl
end Go.Proofs.Ytmpceabhnhipcaa.NumP

