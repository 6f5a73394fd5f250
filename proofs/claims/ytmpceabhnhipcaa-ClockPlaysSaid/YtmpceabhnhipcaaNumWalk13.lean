/- Walks of num.Int and of the document's Int, for every number. -/
import Derived.Test.YtmpceabhnhipcaaNumInt2
namespace Go.Proofs.Ytmpceabhnhipcaa.NumW
open Go.RowKit NumP
/-- What Int answers: the number, and the error. -/
def intAns (x : Nat) : Int × Int :=
  if kind x = 9 then (0, 3)
  else if mag x = 9218868437227405312 then (0, 4)
  else if intN x < -9223372036854775808 ∨ 9223372036854775808 ≤ intN x then (0, 4)
  else (intN x, 0)
def intVal (a : Int × Int) : Value := .tuple #[.int .i64 a.1, .int .i64 a.2]
theorem kind9_iff (x : Nat) : kind x = 9 ↔ 9218868437227405312 < mag x := by
  constructor
  · intro h
    rcases Nat.lt_or_ge 9218868437227405312 (mag x) with h1 | h1
    · exact h1
    · have := kind_num x (by omega); omega
  · exact kind_nan x
theorem low_inf (x : Nat) (h : mag x = 9218868437227405312) : low x = sgn x ∧ high x = !(sgn x) := by
  have hr : rte x = Ieee.double.word (sgn x) 9218868437227405312 := by
    unfold rte
    rw [show FloatKind.f64.decode x = .infinity (sgn x) from read_inf x h]
    rfl
  unfold low high
  rw [hr]
  cases sgn x
  · exact ⟨by decide +kernel, by decide +kernel⟩
  · exact ⟨by decide +kernel, by decide +kernel⟩
theorem int_any (x : Nat) (hx : x < 18446744073709551616) (w : World) : Calls Try.prog 34 #[.float .f64 x] w fun e w' => e = .returned (intVal (intAns x)) ∧ w = w' := by
  unfold intAns
  by_cases h9 : kind x = 9
  · rw [if_pos h9]; exact int_nan x hx h9 w
  · rw [if_neg h9]
    have hle : mag x ≤ 9218868437227405312 := by
      rcases Nat.lt_or_ge 9218868437227405312 (mag x) with z | z
      · exact absurd ((kind9_iff x).2 z) h9
      · exact z
    by_cases hi : mag x = 9218868437227405312
    · rw [if_pos hi]
      obtain ⟨h1, h2⟩ := low_inf x hi
      cases hs : sgn x
      · exact int_high x hx h9 (by rw [h1, hs]) (by rw [h2, hs]; rfl) w
      · exact int_low x hx h9 (by rw [h1, hs]) w
    · rw [if_neg hi]
      have hlt : mag x < 9218868437227405312 := by omega
      have l := low_iff x hlt
      have h := high_iff x hlt
      by_cases hl : intN x < -9223372036854775808
      · rw [if_pos (Or.inl hl)]
        exact int_low x hx h9 (by rw [l, decide_eq_true hl]) w
      · by_cases hh : 9223372036854775808 ≤ intN x
        · rw [if_pos (Or.inr hh)]
          exact int_high x hx h9 (by rw [l, decide_eq_false hl]) (by rw [h, decide_eq_true hh]) w
        · rw [if_neg (by omega)]
          exact int_ok x (intN x) hx h9 (by rw [l, decide_eq_false hl]) (by rw [h, decide_eq_false hh]) (toInt_rte x hlt (by omega) (by omega)) w
theorem expo (x : Nat) (h : x < 18446744073709551616) : bits .and .u64 ((x : Int) / 4503599627370496) 2047 = ((mag x / 4503599627370496 : Nat) : Int) := by
  have e := u64_and_nat (x / 4503599627370496) 2047 (by omega) (by decide)
  have e2 : ((2047 : Nat) : Int) = 2047 := rfl
  have e3 : (2047 : Nat) = 2 ^ 11 - 1 := by decide
  rw [e2, Int.natCast_ediv] at e
  rw [show ((4503599627370496 : Nat) : Int) = 4503599627370496 from rfl] at e
  rw [e, e3, Nat.and_two_pow_sub_one_eq_mod]
  unfold mag
  omega
theorem frac (x : Nat) (h : x < 18446744073709551616) : bits .or .u64 (bits .and .u64 (x : Int) 4503599627370495) 4503599627370496 = ((4503599627370496 + mag x % 4503599627370496 : Nat) : Int) := by
  have e := u64_and_nat x 4503599627370495 h (by decide)
  have e2 : ((4503599627370495 : Nat) : Int) = 4503599627370495 := rfl
  have e3 : (4503599627370495 : Nat) = 2 ^ 52 - 1 := by decide
  rw [e2] at e
  rw [e, e3, Nat.and_two_pow_sub_one_eq_mod]
  have e4 := u64_or_nat (x % 2 ^ 52) 4503599627370496 (by omega) (by decide)
  rw [show ((4503599627370496 : Nat) : Int) = 4503599627370496 from rfl] at e4
  rw [e4]
  have e5 : x % 2 ^ 52 ||| 4503599627370496 = 4503599627370496 + x % 2 ^ 52 := by
    rw [Nat.or_comm]
    exact (Nat.two_pow_add_eq_or_of_lt (show x % 2 ^ 52 < 2 ^ 52 from Nat.mod_lt _ (Nat.two_pow_pos _)) 1).symm
  rw [e5]
  unfold mag
  omega
theorem ret2 {a b c : Int} (h : a = b) : Ending.returned (.tuple #[.int .i64 a, .int .i64 c]) = .returned (.tuple #[.int .i64 b, .int .i64 c]) := by rw [h]
theorem big_of (n : Int) (W : Nat) (h : n = (W : Int) ∨ n = -(W : Int)) (hW : 4503599627370496 * 2 ^ 12 ≤ W) : n < -9223372036854775808 ∨ 9223372036854775808 ≤ n := by
  rcases h with h | h <;> omega
theorem w64 (n : Int) (h1 : -9223372036854775808 ≤ n) (h2 : n ≤ 9223372036854775807) : wrap64 n = n := by
  unfold wrap64; omega
theorem kind_fin (x : Nat) (h : mag x < 9218868437227405312) : kind x ≠ 1 ∧ kind x ≠ 8 := by
  unfold kind
  rw [if_neg (by omega), if_neg (by omega)]
  (repeat' split) <;> omega
theorem ans_ok (x : Nat) (h9 : kind x ≠ 9) (hi : mag x < 9218868437227405312) (h1 : -9223372036854775808 ≤ intN x) (h2 : intN x < 9223372036854775808) : intVal (intAns x) = .tuple #[.int .i64 (intN x), .int .i64 0] := by
  unfold intAns intVal
  rw [if_neg h9, if_neg (by omega), if_neg (by omega)]
theorem ans_big (x : Nat) (h9 : kind x ≠ 9) (hi : mag x < 9218868437227405312) (h : intN x < -9223372036854775808 ∨ 9223372036854775808 ≤ intN x) : intVal (intAns x) = .tuple #[.int .i64 0, .int .i64 4] := by
  unfold intAns intVal
  rw [if_neg h9, if_neg (by omega), if_pos h]
theorem intN_pos (x : Nat) (hs : x < 9223372036854775808) : intN x = (wm (mag x) : Int) := by
  unfold intN
  rw [sgn_eq x (by omega), decide_eq_false (by omega)]; rfl
theorem intN_neg (x : Nat) (hx : x < 18446744073709551616) (hs : 9223372036854775808 ≤ x) : intN x = -(wm (mag x) : Int) := by
  unfold intN
  rw [sgn_eq x hx, decide_eq_true hs]; rfl
theorem intN_cases (x : Nat) : intN x = (wm (mag x) : Int) ∨ intN x = -(wm (mag x) : Int) := by
  unfold intN; split
  · exact Or.inr rfl
  · exact Or.inl rfl
set_option maxHeartbeats 1000000 in
set_option maxRecDepth 100000 in
theorem refInt_tiny (x : Nat) (hx : x < 18446744073709551616) (h9 : kind x ≠ 9) (hi : mag x < 9218868437227405312) (E f : Nat) (hE : mag x / 4503599627370496 = E) (hf : mag x % 4503599627370496 = f) (h1 : E ≤ 1021)  (w : World) :
    Calls Try.prog 36 #[.float .f64 x] w fun e w' => e = .returned (intVal (intAns x)) ∧ w = w' := by
  have HO := Lib.hid (one_num x (fun z => h9 ((kind9_iff x).2 z)))
  have k9 : (kind x == 9) = false := by rw [beq_eq_false_iff_ne]; exact h9
  have k1 : (kind x == 1) = false := by rw [beq_eq_false_iff_ne]; exact (kind_fin x hi).1
  have k8 : (kind x == 8) = false := by rw [beq_eq_false_iff_ne]; exact (kind_fin x hi).2
  have ex := expo x hx
  have fr := frac x hx
  have HX := Lib.hid hx
  have HA := Lib.hid (ans_ok x h9 hi (by rcases intN_cases x with z | z <;> rw [z, wm_tiny _ (by omega)] <;> decide) (by rcases intN_cases x with z | z <;> rw [z, wm_tiny _ (by omega)] <;> decide))
  have HI : Hid (intN x = 0) := Lib.hid (by rcases intN_cases x with z | z <;> rw [z, wm_tiny _ (by omega)] <;> rfl)
  rw [hE] at ex
  rw [hf] at fr
  have hm : f < 4503599627370496 := by omega
  clear hE hf hi h9 hx 
  go_enter Try.func36, Try.ntmps36
  go_wp2_with (first | (go_at_call 47; refine (refOne_any _ HX.out _).mono ?_; rintro e w' ⟨rfl, rfl⟩; rw [HO.out]) | (go_at_call 48; refine (refKind_any _ HX.out _).mono ?_; rintro e w' ⟨rfl, rfl⟩))
  go_ret2
  exact ⟨(ret2 (HI.out.symm : (0 : Int) = intN x)).trans (by rw [HA.out]), rfl⟩
set_option maxHeartbeats 1000000 in
set_option maxRecDepth 100000 in
theorem refInt_huge (x : Nat) (hx : x < 18446744073709551616) (h9 : kind x ≠ 9) (hi : mag x < 9218868437227405312) (E f : Nat) (hE : mag x / 4503599627370496 = E) (hf : mag x % 4503599627370496 = f) (h1 : 1087 ≤ E) (hE2 : E ≤ 2046) (w : World) :
    Calls Try.prog 36 #[.float .f64 x] w fun e w' => e = .returned (intVal (intAns x)) ∧ w = w' := by
  have HO := Lib.hid (one_num x (fun z => h9 ((kind9_iff x).2 z)))
  have k9 : (kind x == 9) = false := by rw [beq_eq_false_iff_ne]; exact h9
  have k1 : (kind x == 1) = false := by rw [beq_eq_false_iff_ne]; exact (kind_fin x hi).1
  have k8 : (kind x == 8) = false := by rw [beq_eq_false_iff_ne]; exact (kind_fin x hi).2
  have ex := expo x hx
  have fr := frac x hx
  have HX := Lib.hid hx
  have HA := Lib.hid (ans_big x h9 hi (by
    have hw := wm_high (mag x) (by omega)
    have hp : (2 : Nat) ^ 12 ≤ 2 ^ (mag x / 4503599627370496 - 1075) := Nat.pow_le_pow_right (by decide) (by omega)
    have hmul : 4503599627370496 * 2 ^ 12 ≤ (4503599627370496 + mag x % 4503599627370496) * 2 ^ (mag x / 4503599627370496 - 1075) := Nat.mul_le_mul (by omega) hp
    rw [← hw] at hmul
    exact big_of _ _ (intN_cases x) hmul))
  rw [hE] at ex
  rw [hf] at fr
  have hm : f < 4503599627370496 := by omega
  clear hE hf hi h9 hx 
  go_enter Try.func36, Try.ntmps36
  go_wp2_with (first | (go_at_call 47; refine (refOne_any _ HX.out _).mono ?_; rintro e w' ⟨rfl, rfl⟩; rw [HO.out]) | (go_at_call 48; refine (refKind_any _ HX.out _).mono ?_; rintro e w' ⟨rfl, rfl⟩))
  go_ret2
  exact ⟨congrArg Ending.returned HA.out.symm, rfl⟩
set_option maxHeartbeats 1000000 in
set_option maxRecDepth 100000 in
theorem refInt_pos (x : Nat) (hx : x < 18446744073709551616) (h9 : kind x ≠ 9) (hi : mag x < 9218868437227405312) (E f : Nat) (hE : mag x / 4503599627370496 = E) (hf : mag x % 4503599627370496 = f) (h1 : 1075 ≤ E) (h2 : E ≤ 1085) (hs : x < 9223372036854775808) (w : World) :
    Calls Try.prog 36 #[.float .f64 x] w fun e w' => e = .returned (intVal (intAns x)) ∧ w = w' := by
  have HO := Lib.hid (one_num x (fun z => h9 ((kind9_iff x).2 z)))
  have k9 : (kind x == 9) = false := by rw [beq_eq_false_iff_ne]; exact h9
  have k1 : (kind x == 1) = false := by rw [beq_eq_false_iff_ne]; exact (kind_fin x hi).1
  have k8 : (kind x == 8) = false := by rw [beq_eq_false_iff_ne]; exact (kind_fin x hi).2
  have ex := expo x hx
  have fr := frac x hx
  have HX := Lib.hid hx
  have d1 : decide ((9223372036854775808 : Int) ≤ (x : Int)) = false := by rw [decide_eq_false_iff_not]; omega
  have hw := wm_high (mag x) (by omega)
  rw [hE, hf] at hw
  have hb : wm (mag x) < 9223372036854775808 := by
    rw [hw]
    have hp : (2 : Nat) ^ (E - 1075) ≤ 2 ^ 10 := Nat.pow_le_pow_right (by decide) (by omega)
    have : (4503599627370496 + f) * 2 ^ (E - 1075) ≤ 9007199254740991 * 2 ^ 10 := Nat.mul_le_mul (by omega) hp
    omega
  have HW : Hid (((4503599627370496 + (f : Int)) * 2 ^ (E - 1075)) = (wm (mag x) : Int)) := Lib.hid (by rw [hw, Int.natCast_mul, Int.natCast_pow]; rfl)
  have hn := intN_pos x hs
  have HA := Lib.hid (ans_ok x h9 hi (by rw [hn]; omega) (by rw [hn]; omega))
  have HF : Hid (wrap64 (IntKind.u64.wrap ((4503599627370496 + (f : Int)) * 2 ^ (E - 1075))) = intN x) := Lib.hid (by rw [HW.out, hn, IntWalk.u64_in _ (by omega), w64 _ (by omega) (by omega)])
  clear hw hb hn HW
  rw [hE] at ex
  rw [hf] at fr
  have hm : f < 4503599627370496 := by omega
  clear hE hf hi h9 hx hs
  go_enter Try.func36, Try.ntmps36
  go_wp2_with (first | (go_at_call 47; refine (refOne_any _ HX.out _).mono ?_; rintro e w' ⟨rfl, rfl⟩; rw [HO.out]) | (go_at_call 48; refine (refKind_any _ HX.out _).mono ?_; rintro e w' ⟨rfl, rfl⟩))
  go_ret2
  exact ⟨(ret2 HF.out).trans (by rw [HA.out]), rfl⟩
set_option maxHeartbeats 1000000 in
set_option maxRecDepth 100000 in
theorem refInt_neg (x : Nat) (hx : x < 18446744073709551616) (h9 : kind x ≠ 9) (hi : mag x < 9218868437227405312) (E f : Nat) (hE : mag x / 4503599627370496 = E) (hf : mag x % 4503599627370496 = f) (h1 : 1075 ≤ E) (h2 : E ≤ 1085) (hs : 9223372036854775808 ≤ x) (w : World) :
    Calls Try.prog 36 #[.float .f64 x] w fun e w' => e = .returned (intVal (intAns x)) ∧ w = w' := by
  have HO := Lib.hid (one_num x (fun z => h9 ((kind9_iff x).2 z)))
  have k9 : (kind x == 9) = false := by rw [beq_eq_false_iff_ne]; exact h9
  have k1 : (kind x == 1) = false := by rw [beq_eq_false_iff_ne]; exact (kind_fin x hi).1
  have k8 : (kind x == 8) = false := by rw [beq_eq_false_iff_ne]; exact (kind_fin x hi).2
  have ex := expo x hx
  have fr := frac x hx
  have HX := Lib.hid hx
  have d1 : decide ((9223372036854775808 : Int) ≤ (x : Int)) = true := by rw [decide_eq_true_eq]; omega
  have hw := wm_high (mag x) (by omega)
  rw [hE, hf] at hw
  have hb : wm (mag x) < 9223372036854775808 := by
    rw [hw]
    have hp : (2 : Nat) ^ (E - 1075) ≤ 2 ^ 10 := Nat.pow_le_pow_right (by decide) (by omega)
    have : (4503599627370496 + f) * 2 ^ (E - 1075) ≤ 9007199254740991 * 2 ^ 10 := Nat.mul_le_mul (by omega) hp
    omega
  have HW : Hid (((4503599627370496 + (f : Int)) * 2 ^ (E - 1075)) = (wm (mag x) : Int)) := Lib.hid (by rw [hw, Int.natCast_mul, Int.natCast_pow]; rfl)
  have hn := intN_neg x hx hs
  have HA := Lib.hid (ans_ok x h9 hi (by rw [hn]; omega) (by rw [hn]; omega))
  have HF : Hid (wrap64 (-wrap64 (IntKind.u64.wrap ((4503599627370496 + (f : Int)) * 2 ^ (E - 1075)))) = intN x) := Lib.hid (by rw [HW.out, hn, IntWalk.u64_in _ (by omega), w64 (wm (mag x) : Int) (by omega) (by omega), w64 _ (by omega) (by omega)])
  clear hw hb hn HW
  rw [hE] at ex
  rw [hf] at fr
  have hm : f < 4503599627370496 := by omega
  clear hE hf hi h9 hx hs
  go_enter Try.func36, Try.ntmps36
  go_wp2_with (first | (go_at_call 47; refine (refOne_any _ HX.out _).mono ?_; rintro e w' ⟨rfl, rfl⟩; rw [HO.out]) | (go_at_call 48; refine (refKind_any _ HX.out _).mono ?_; rintro e w' ⟨rfl, rfl⟩))
  go_ret2
  exact ⟨(ret2 HF.out).trans (by rw [HA.out]), rfl⟩
set_option maxHeartbeats 1000000 in
set_option maxRecDepth 100000 in
theorem refInt_11pos (x : Nat) (hx : x < 18446744073709551616) (h9 : kind x ≠ 9) (hi : mag x < 9218868437227405312) (f : Nat) (hE : mag x / 4503599627370496 = 1086) (hf : mag x % 4503599627370496 = f)  (hs : x < 9223372036854775808) (w : World) :
    Calls Try.prog 36 #[.float .f64 x] w fun e w' => e = .returned (intVal (intAns x)) ∧ w = w' := by
  have HO := Lib.hid (one_num x (fun z => h9 ((kind9_iff x).2 z)))
  have k9 : (kind x == 9) = false := by rw [beq_eq_false_iff_ne]; exact h9
  have k1 : (kind x == 1) = false := by rw [beq_eq_false_iff_ne]; exact (kind_fin x hi).1
  have k8 : (kind x == 8) = false := by rw [beq_eq_false_iff_ne]; exact (kind_fin x hi).2
  have ex := expo x hx
  have fr := frac x hx
  have HX := Lib.hid hx
  have d1 : decide ((9223372036854775808 : Int) ≤ (x : Int)) = false := by rw [decide_eq_false_iff_not]; omega
  have hw := wm_high (mag x) (by omega)
  rw [hE, hf] at hw
  rw [show 1086 - 1075 = 11 from rfl] at hw
  have hn := intN_pos x hs
  have HA := Lib.hid (ans_big x h9 hi (Or.inr (by rw [hn, hw]; omega)))
  clear hw hn
  rw [hE] at ex
  rw [hf] at fr
  have hm : f < 4503599627370496 := by omega
  clear hE hf hi h9 hx hs
  go_enter Try.func36, Try.ntmps36
  go_wp2_with (first | (go_at_call 47; refine (refOne_any _ HX.out _).mono ?_; rintro e w' ⟨rfl, rfl⟩; rw [HO.out]) | (go_at_call 48; refine (refKind_any _ HX.out _).mono ?_; rintro e w' ⟨rfl, rfl⟩))
  go_ret2
  exact ⟨congrArg Ending.returned HA.out.symm, rfl⟩
set_option maxHeartbeats 1000000 in
set_option maxRecDepth 100000 in
theorem refInt_11neg (x : Nat) (hx : x < 18446744073709551616) (h9 : kind x ≠ 9) (hi : mag x < 9218868437227405312) (f : Nat) (hE : mag x / 4503599627370496 = 1086) (hf : mag x % 4503599627370496 = f) (hf0 : f ≠ 0) (hs : 9223372036854775808 ≤ x) (w : World) :
    Calls Try.prog 36 #[.float .f64 x] w fun e w' => e = .returned (intVal (intAns x)) ∧ w = w' := by
  have HO := Lib.hid (one_num x (fun z => h9 ((kind9_iff x).2 z)))
  have k9 : (kind x == 9) = false := by rw [beq_eq_false_iff_ne]; exact h9
  have k1 : (kind x == 1) = false := by rw [beq_eq_false_iff_ne]; exact (kind_fin x hi).1
  have k8 : (kind x == 8) = false := by rw [beq_eq_false_iff_ne]; exact (kind_fin x hi).2
  have ex := expo x hx
  have fr := frac x hx
  have HX := Lib.hid hx
  have d1 : decide ((9223372036854775808 : Int) ≤ (x : Int)) = true := by rw [decide_eq_true_eq]; omega
  have hw := wm_high (mag x) (by omega)
  rw [hE, hf] at hw
  rw [show 1086 - 1075 = 11 from rfl] at hw
  have hn := intN_neg x hx hs
  have HA := Lib.hid (ans_big x h9 hi (Or.inl (by rw [hn, hw]; omega)))
  have d2 : ((4503599627370496 + (f : Int)) == 4503599627370496) = false := by rw [beq_eq_false_iff_ne]; omega
  have d3 : (f == 0) = false := by rw [beq_eq_false_iff_ne]; exact hf0
  clear hw hn
  rw [hE] at ex
  rw [hf] at fr
  have hm : f < 4503599627370496 := by omega
  clear hE hf hi h9 hx hs hf0
  go_enter Try.func36, Try.ntmps36
  go_wp2_with (first | (go_at_call 47; refine (refOne_any _ HX.out _).mono ?_; rintro e w' ⟨rfl, rfl⟩; rw [HO.out]) | (go_at_call 48; refine (refKind_any _ HX.out _).mono ?_; rintro e w' ⟨rfl, rfl⟩))
  go_ret2
  exact ⟨congrArg Ending.returned HA.out.symm, rfl⟩
set_option maxHeartbeats 1000000 in
set_option maxRecDepth 100000 in
theorem refInt_11least (x : Nat) (hx : x < 18446744073709551616) (h9 : kind x ≠ 9) (hi : mag x < 9218868437227405312) (hE : mag x / 4503599627370496 = 1086) (hf : mag x % 4503599627370496 = 0)  (hs : 9223372036854775808 ≤ x) (w : World) :
    Calls Try.prog 36 #[.float .f64 x] w fun e w' => e = .returned (intVal (intAns x)) ∧ w = w' := by
  have HO := Lib.hid (one_num x (fun z => h9 ((kind9_iff x).2 z)))
  have k9 : (kind x == 9) = false := by rw [beq_eq_false_iff_ne]; exact h9
  have k1 : (kind x == 1) = false := by rw [beq_eq_false_iff_ne]; exact (kind_fin x hi).1
  have k8 : (kind x == 8) = false := by rw [beq_eq_false_iff_ne]; exact (kind_fin x hi).2
  have ex := expo x hx
  have fr := frac x hx
  have HX := Lib.hid hx
  have d1 : decide ((9223372036854775808 : Int) ≤ (x : Int)) = true := by rw [decide_eq_true_eq]; omega
  have hw := wm_high (mag x) (by omega)
  rw [hE, hf] at hw
  rw [show 1086 - 1075 = 11 from rfl] at hw
  have hn := intN_neg x hx hs
  have HA := Lib.hid (ans_ok x h9 hi (by rw [hn, hw]; omega) (by rw [hn, hw]; omega))
  have HF : Hid (wrap64 9223372036854775808 = intN x) := Lib.hid (by rw [hn, hw]; decide +kernel)
  have q1 : IntKind.u64.wrap 9223372036854775808 = 9223372036854775808 := IntWalk.u64_in _ (by omega)
  have q2 : wrap64 9223372036854775808 = -9223372036854775808 := by decide +kernel
  clear hw hn
  rw [hE] at ex
  rw [hf] at fr
  clear hE hf hi h9 hx hs
  go_enter Try.func36, Try.ntmps36
  go_wp2_with (first | (go_at_call 47; refine (refOne_any _ HX.out _).mono ?_; rintro e w' ⟨rfl, rfl⟩; rw [HO.out]) | (go_at_call 48; refine (refKind_any _ HX.out _).mono ?_; rintro e w' ⟨rfl, rfl⟩))
  go_ret2
  exact ⟨(ret2 HF.out).trans (by rw [HA.out]), rfl⟩
end Go.Proofs.Ytmpceabhnhipcaa.NumW

