/- Plain mathematics: whole numbers as words, and sums with a zero and with a quarter. -/
import Derived.Test.YtgcmjmnolkojhaaDoorNumInt2
import Derived.Test.YtgcmjmnolkojhaaDoorNumWalk13
namespace Go.Proofs.YtgcmjmnolkojhaaDoor.NumP
open NumW
theorem word_of (y : Nat) (h : y < 18446744073709551616) : Ieee.double.word (sgn y) (mag y) = y := by
  have e1 : Ieee.double.signWeight = 9223372036854775808 := by decide
  unfold Ieee.Format.word
  rw [e1, sgn_eq y h]
  unfold mag
  by_cases h1 : 9223372036854775808 ≤ y
  · rw [decide_eq_true h1, if_pos rfl]; omega
  · rw [decide_eq_false h1, if_neg (by decide)]; omega
theorem rep_of (c j : Nat) (hc : c ≠ 0) (hlt : c < 9007199254740992) : c * 2 ^ j ≠ 0 ∧ 2 ^ ((c * 2 ^ j).log2 - 52) ∣ c * 2 ^ j ∧ (c * 2 ^ j).log2 ≤ 52 + j := by
  have h0 : c * 2 ^ j ≠ 0 := Nat.mul_ne_zero hc (Nat.ne_of_gt (Nat.two_pow_pos _))
  have hl : (c * 2 ^ j).log2 < 53 + j := (Nat.log2_lt h0).2 (by
    rw [Nat.pow_add]; exact Nat.mul_lt_mul_of_pos_right (show c < 2 ^ 53 from hlt) (Nat.two_pow_pos _))
  refine ⟨h0, ?_, by omega⟩
  exact Nat.dvd_trans (Nat.pow_dvd_pow 2 (show (c * 2 ^ j).log2 - 52 ≤ j by omega)) (Nat.dvd_mul_left _ _)
theorem val_rep (r : Nat) (hr : r < 9218868437227405312) (h0 : r ≠ 0) : ∃ c j, c ≠ 0 ∧ c < 9007199254740992 ∧ j ≤ 2045 ∧ val r = c * 2 ^ j := by
  by_cases h : r < 4503599627370496
  · exact ⟨r, 0, h0, by omega, by omega, by unfold val; rw [if_pos h, Nat.pow_zero, Nat.mul_one]⟩
  · exact ⟨_, _, by omega, by omega, by omega, val_form r (by omega)⟩
/-- What a whole number over a power of two is as a word. -/
theorem nearest_rep (neg : Bool) (c j p : Nat) (hc : c ≠ 0) (hlt : c < 9007199254740992) (hfin : p + 52 + j ≤ 2097) :
    ∃ r, Ieee.double.nearest neg (c * 2 ^ j) (-1074 + (p : Int)) = Ieee.double.word neg r ∧ val r = c * 2 ^ j * 2 ^ p ∧ r < 9218868437227405312 := by
  obtain ⟨h1, h2, h3⟩ := rep_of c j hc hlt
  exact nearest_exact neg _ p h1 h2 (by omega)
theorem signed_scale (s : Bool) (m k d : Nat) (h : d ≤ k) : Ieee.signed s m (k - d) * ((2 ^ d : Nat) : Int) = if s then -((m * 2 ^ k : Nat) : Int) else ((m * 2 ^ k : Nat) : Int) := signed_val s m k d h
/-- A sum of two finite numbers: one whole number over a power of two, then written. -/
theorem add_parts (x y : Nat) (hx : mag x < 9218868437227405312) (hy : mag y < 9218868437227405312) :
    ∃ (T : Int) (d : Nat), FloatKind.f64.format.add x y = some (Ieee.double.nearest (if T = 0 then sgn x && sgn y else decide (T < 0)) T.natAbs (-1074 + (d : Int))) ∧ T * ((2 ^ d : Nat) : Int) = fval x + fval y := by
  obtain ⟨m, k, hr, hv⟩ := read_number x hx
  obtain ⟨n, l, hr2, hv2⟩ := read_number y hy
  have e1 : (-1074 + (k : Int) - min (-1074 + (k : Int)) (-1074 + (l : Int))).toNat = k - min k l := by omega
  have e2 : (-1074 + (l : Int) - min (-1074 + (k : Int)) (-1074 + (l : Int))).toNat = l - min k l := by omega
  have e3 : min (-1074 + (k : Int)) (-1074 + (l : Int)) = -1074 + ((min k l : Nat) : Int) := by omega
  refine ⟨Ieee.signed (sgn x) m (k - min k l) + Ieee.signed (sgn y) n (l - min k l), min k l, ?_, ?_⟩
  · unfold Ieee.Format.add
    rw [show FloatKind.f64.format.read x = .number (sgn x) m (-1074 + (k : Int)) from hr, show FloatKind.f64.format.read y = .number (sgn y) n (-1074 + (l : Int)) from hr2]
    show some (Ieee.double.nearest (if Ieee.signed (sgn x) m (-1074 + (k : Int) - min (-1074 + (k : Int)) (-1074 + (l : Int))).toNat + Ieee.signed (sgn y) n (-1074 + (l : Int) - min (-1074 + (k : Int)) (-1074 + (l : Int))).toNat = 0 then sgn x && sgn y else decide (Ieee.signed (sgn x) m (-1074 + (k : Int) - min (-1074 + (k : Int)) (-1074 + (l : Int))).toNat + Ieee.signed (sgn y) n (-1074 + (l : Int) - min (-1074 + (k : Int)) (-1074 + (l : Int))).toNat < 0)) (Ieee.signed (sgn x) m (-1074 + (k : Int) - min (-1074 + (k : Int)) (-1074 + (l : Int))).toNat + Ieee.signed (sgn y) n (-1074 + (l : Int) - min (-1074 + (k : Int)) (-1074 + (l : Int))).toNat).natAbs (min (-1074 + (k : Int)) (-1074 + (l : Int)))) = _
    rw [e1, e2, e3]
  · rw [Int.add_mul, signed_val _ _ _ _ (Nat.min_le_left k l), signed_val _ _ _ _ (Nat.min_le_right k l), hv, hv2]
    rfl
theorem rep_eq (n d c J : Nat) (hc : c ≠ 0) (hlt : c < 9007199254740992) (h : n * 2 ^ d = c * 2 ^ J) : n ≠ 0 ∧ 2 ^ (n.log2 - 52) ∣ n ∧ d + n.log2 ≤ 52 + J := by
  have hn : n ≠ 0 := by
    rintro rfl
    rw [Nat.zero_mul] at h
    exact Nat.mul_ne_zero hc (Nat.ne_of_gt (Nat.two_pow_pos J)) h.symm
  have hl : d + n.log2 ≤ 52 + J := by
    have h1 : 2 ^ (n.log2 + d) ≤ n * 2 ^ d := by rw [Nat.pow_add]; exact Nat.mul_le_mul_right _ (Nat.log2_self_le hn)
    have h2 : c * 2 ^ J < 2 ^ (53 + J) := by rw [Nat.pow_add]; exact Nat.mul_lt_mul_of_pos_right (show c < 2 ^ 53 from hlt) (Nat.two_pow_pos _)
    have h3 := (Nat.pow_lt_pow_iff_right (a := 2) (by decide)).1 (Nat.lt_of_le_of_lt (h ▸ h1) h2)
    omega
  refine ⟨hn, ?_, hl⟩
  by_cases hd : d ≤ J
  · have e : n = c * 2 ^ (J - d) := by
      apply Nat.eq_of_mul_eq_mul_right (Nat.two_pow_pos d)
      rw [h]; exact (mul_pow_sub c J d hd).symm
    exact Nat.dvd_trans (Nat.pow_dvd_pow 2 (show n.log2 - 52 ≤ J - d by omega)) (e ▸ Nat.dvd_mul_left _ _)
  · rw [show n.log2 - 52 = 0 by omega, Nat.pow_zero]; exact Nat.one_dvd _
/-- A sum that the format has just so. -/
theorem add_exact (x y : Nat) (hx : mag x < 9218868437227405312) (hy : mag y < 9218868437227405312) (s : Bool) (c J : Nat) (hc : c ≠ 0) (hlt : c < 9007199254740992) (hJ : 52 + J ≤ 2097)
    (h : fval x + fval y = if s then -((c * 2 ^ J : Nat) : Int) else ((c * 2 ^ J : Nat) : Int)) : ∃ r, FloatKind.f64.format.add x y = some (Ieee.double.word s r) ∧ val r = c * 2 ^ J ∧ r < 9218868437227405312 := by
  obtain ⟨T, d, ha, hT⟩ := add_parts x y hx hy
  rw [h] at hT
  have hp : (0 : Int) < ((2 ^ d : Nat) : Int) := by have := Nat.two_pow_pos d; omega
  have hcJ : (0 : Int) < ((c * 2 ^ J : Nat) : Int) := by
    have := Nat.mul_pos (Nat.pos_of_ne_zero hc) (Nat.two_pow_pos J)
    omega
  have habs : T.natAbs * 2 ^ d = c * 2 ^ J := by
    have := congrArg Int.natAbs hT
    rw [Int.natAbs_mul, Int.natAbs_natCast] at this
    rw [this]
    cases s
    · rw [if_neg (by decide), Int.natAbs_natCast]
    · rw [if_pos rfl, Int.natAbs_neg, Int.natAbs_natCast]
  obtain ⟨h0, h1, h2⟩ := rep_eq _ _ _ _ hc hlt habs
  have hs : (if T = 0 then sgn x && sgn y else decide (T < 0)) = s := by
    rw [if_neg (by omega)]
    cases s
    · rw [if_neg (by decide)] at hT
      rw [decide_eq_false]
      intro z
      have := Int.mul_neg_of_neg_of_pos z hp
      omega
    · rw [if_pos rfl] at hT
      rw [decide_eq_true]
      rcases Int.lt_or_le T 0 with z | z
      · exact z
      · have := Int.mul_nonneg z (Int.le_of_lt hp)
        omega
  obtain ⟨r, hn, hvr, hr⟩ := nearest_exact s T.natAbs d h0 h1 (by omega)
  exact ⟨r, by rw [ha, hs, hn], by rw [hvr, habs], hr⟩
theorem add_null (x y : Nat) (hx : mag x < 9218868437227405312) (hy : mag y < 9218868437227405312) (h : fval x + fval y = 0) : FloatKind.f64.format.add x y = some (Ieee.double.word (sgn x && sgn y) 0) := by
  obtain ⟨T, d, ha, hT⟩ := add_parts x y hx hy
  rw [h] at hT
  have hp : ((2 ^ d : Nat) : Int) ≠ 0 := by have := Nat.two_pow_pos d; omega
  have h0 : T = 0 := by
    rcases Int.mul_eq_zero.1 hT with z | z
    · exact z
    · exact absurd z hp
  subst h0
  rw [ha, if_pos rfl]
  rfl
theorem fval_zero : fval 0 = 0 := by decide +kernel
theorem fval_sgn (y : Nat) (c j : Nat) (h : val (mag y) = c * 2 ^ j) : fval y = if sgn y then -((c * 2 ^ j : Nat) : Int) else ((c * 2 ^ j : Nat) : Int) := by
  unfold fval; rw [h]
theorem fval_null (y : Nat) (h : mag y = 0) : fval y = 0 := by
  unfold fval; rw [h, show val 0 = 0 from rfl]; split <;> rfl
/-- A number and a zero beside it. -/
theorem add_zero (y : Nat) (hy : y < 18446744073709551616) (hf : mag y < 9218868437227405312) (hz : mag y = 0 → sgn y = false) : FloatKind.f64.format.add y 0 = some y ∧ FloatKind.f64.format.add 0 y = some y := by
  have hw := word_of y hy
  by_cases h0 : mag y = 0
  · rw [hz h0, h0] at hw
    constructor
    · rw [add_null y 0 hf (by decide) (by rw [fval_null y h0, fval_zero]; rfl), hz h0]; exact congrArg some hw
    · rw [add_null 0 y (by decide) hf (by rw [fval_null y h0, fval_zero]; rfl), hz h0, Bool.and_false]; exact congrArg some hw
  · obtain ⟨c, j, hc, hlt, hj, hval⟩ := val_rep _ hf h0
    constructor
    · obtain ⟨r, ha, hvr, _⟩ := add_exact y 0 hf (by decide) (sgn y) c j hc hlt (by omega) (by rw [fval_zero, Int.add_zero]; exact fval_sgn y c j hval)
      rw [ha, val_eq.1 (hvr.trans hval.symm), hw]
    · obtain ⟨r, ha, hvr, _⟩ := add_exact 0 y (by decide) hf (sgn y) c j hc hlt (by omega) (by rw [fval_zero, Int.zero_add]; exact fval_sgn y c j hval)
      rw [ha, val_eq.1 (hvr.trans hval.symm), hw]
theorem zero_of (c : Nat) : fval 0 = 0 * ((2 ^ c : Nat) : Int) := by rw [fval_zero, Int.zero_mul]
theorem fval_word (y : Nat) (m : Int) (c : Nat) (hs : sgn y = decide (m < 0)) (hv : val (mag y) = m.natAbs * 2 ^ c) : fval y = m * ((2 ^ c : Nat) : Int) := by
  unfold fval
  rw [hs, hv, Int.natCast_mul]
  by_cases hm : m < 0
  · rw [decide_eq_true hm, if_pos rfl, ← Int.neg_mul, show -(m.natAbs : Int) = m by omega]
  · rw [decide_eq_false hm, if_neg (by decide), show (m.natAbs : Int) = m by omega]
/-- A whole number's word. -/
theorem whole_parts (m : Int) (h : m.natAbs < 9007199254740992) (u : Nat) (hu : u = 1074) : mag (floatOfInt .f64 m) < 9218868437227405312 ∧ floatOfInt .f64 m < 18446744073709551616 ∧ (mag (floatOfInt .f64 m) = 0 → sgn (floatOfInt .f64 m) = false) ∧ fval (floatOfInt .f64 m) = m * ((2 ^ u : Nat) : Int) ∧ intN (floatOfInt .f64 m) = m := by
  have hd : floatOfInt .f64 m = Ieee.double.nearest (decide (m < 0)) m.natAbs 0 := rfl
  by_cases h0 : m = 0
  · have e : floatOfInt .f64 m = 0 := by rw [h0]; decide +kernel
    rw [e]
    exact ⟨by decide, by decide, fun _ => by decide, by rw [h0]; exact zero_of u, by rw [h0]; decide +kernel⟩
  · have hn : m.natAbs ≠ 0 := by omega
    obtain ⟨r, hr, hvr, hlt⟩ := nearest_rep (decide (m < 0)) m.natAbs 0 u hn h (by omega)
    rw [Nat.pow_zero, Nat.mul_one] at hr hvr
    have e : floatOfInt .f64 m = Ieee.double.word (decide (m < 0)) r := by rw [hd, ← hr, hu]; rfl
    obtain ⟨p1, p2, p3⟩ := word_parts (decide (m < 0)) r hlt
    have hwm : wm r = m.natAbs := by unfold wm; rw [hvr, hu]; exact near_exact _ 1074
    rw [e]
    refine ⟨by rw [p1]; exact hlt, p3, ?_, fval_word _ m u p2 (by rw [p1]; exact hvr), ?_⟩
    · rw [p1]
      intro z
      have : wm r = 0 := by rw [z]; exact wm_tiny 0 (by decide)
      omega
    · unfold intN
      rw [p1, p2, hwm]
      by_cases hm : m < 0
      · rw [decide_eq_true hm, if_pos rfl]; omega
      · rw [decide_eq_false hm, if_neg (by decide)]; omega
theorem quarter_val (v : Nat) (hv : v = 1072) : fval 4598175219545276416 = ((2 ^ v : Nat) : Int) := by rw [hv]; decide +kernel
/-- A whole number and a quarter: its nearest whole number is the number. -/
theorem quarter_parts (m : Int) (h1 : -1125899906842624 ≤ m) (h2 : m ≤ 1125899906842624) :
    ∃ r, FloatKind.f64.format.add (floatOfInt .f64 m) 4598175219545276416 = some r ∧ r < 18446744073709551616 ∧ mag r < 9218868437227405312 ∧ intN r = m := by
  obtain ⟨u, hu⟩ : ∃ u, u = 1074 := ⟨_, rfl⟩
  obtain ⟨v, hv⟩ : ∃ v, v = 1072 := ⟨_, rfl⟩
  obtain ⟨w1, w2, _, w4, _⟩ := whole_parts m (by omega) u hu
  have hsum : fval (floatOfInt .f64 m) + fval 4598175219545276416 = (4 * m + 1) * ((2 ^ v : Nat) : Int) := by
    rw [w4, quarter_val v hv, show u = v + 2 by omega, Nat.pow_add, Int.natCast_mul, Int.add_mul, Int.one_mul]
    have : ((2 ^ 2 : Nat) : Int) = 4 := rfl
    rw [this, Int.mul_comm _ (4 : Int), ← Int.mul_assoc, Int.mul_comm m 4]
  have hc : (4 * m + 1).natAbs ≠ 0 := by omega
  have hsplit : (4 * m + 1) * ((2 ^ v : Nat) : Int) = if decide (4 * m + 1 < 0) then -(((4 * m + 1).natAbs * 2 ^ v : Nat) : Int) else (((4 * m + 1).natAbs * 2 ^ v : Nat) : Int) := by
    rw [Int.natCast_mul]
    by_cases hm : 4 * m + 1 < 0
    · rw [decide_eq_true hm, if_pos rfl, ← Int.neg_mul, show -((4 * m + 1).natAbs : Int) = 4 * m + 1 by omega]
    · rw [decide_eq_false hm, if_neg (by decide), show ((4 * m + 1).natAbs : Int) = 4 * m + 1 by omega]
  obtain ⟨r, ha, hvr, hlt⟩ := add_exact _ _ w1 (by decide) (decide (4 * m + 1 < 0)) (4 * m + 1).natAbs v hc (by omega) (by omega) (hsum.trans hsplit)
  obtain ⟨p1, p2, p3⟩ := word_parts (decide (4 * m + 1 < 0)) r hlt
  refine ⟨_, ha, p3, by rw [p1]; exact hlt, ?_⟩
  have hwm : wm r = near (4 * m + 1).natAbs 2 := by
    unfold wm
    rw [hvr, show 1074 = 2 + v by omega]
    exact near_scale _ 2 v
  unfold intN
  rw [p1, p2, hwm]
  unfold near
  by_cases hm : 4 * m + 1 < 0
  · rw [decide_eq_true hm, if_pos rfl]
    split <;> omega
  · rw [decide_eq_false hm, if_neg (by decide)]
    split <;> omega
/-- A sum of a whole number's word and a quarter is some word, whatever the number. -/
theorem quarter_some (m : Int) (h : m.natAbs < 9007199254740992) : ∃ r, FloatKind.f64.format.add (floatOfInt .f64 m) 4598175219545276416 = some r ∧ r < 18446744073709551616 := by
  obtain ⟨w1, _⟩ := whole_parts m h 1074 rfl
  obtain ⟨T, d, ha, _⟩ := add_parts _ 4598175219545276416 w1 (by decide)
  exact ⟨_, ha, FloatKind.f64.format.add_lt ha⟩
end Go.Proofs.YtgcmjmnolkojhaaDoor.NumP
