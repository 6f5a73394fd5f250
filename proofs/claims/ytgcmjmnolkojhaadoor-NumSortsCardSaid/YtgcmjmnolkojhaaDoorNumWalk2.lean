/- Walks of num.One, num.Compare and what they call. -/
import Derived.Test.YtgcmjmnolkojhaaDoorNumWalk1
import Derived.Test.YtgcmjmnolkojhaaDoorNumOrd
namespace Go.Proofs.YtgcmjmnolkojhaaDoor.NumW
open Go.RowKit NumP
theorem ret_float {k : FloatKind} {a b : Nat} (h : a = b) : Ending.returned (.float k a) = .returned (.float k b) := by rw [h]
set_option maxHeartbeats 400000 in
set_option maxRecDepth 100000 in
theorem one_any (x : Nat) (hx : x < 18446744073709551616) (w : World) : Calls Tryd.prog 16 #[.float .f64 x] w fun e w' => e = .returned (.float .f64 (oneN x)) ∧ w = w' := by
  by_cases h : 9218868437227405312 < mag x
  · have Hk := Lib.hid (one_nan x h)
    have k : (kind x == 9) = true := by rw [beq_iff_eq]; exact kind_nan x h
    clear h
    go_enter Tryd.func16, Tryd.ntmps16
    go_wp2_with (go_at_call 13; refine (kind_any _ hx _).mono ?_; rintro e w' ⟨rfl, rfl⟩)
    go_ret
    exact ⟨ret_float Hk.out.symm, rfl⟩
  · have Hk := Lib.hid (one_num x h)
    have k : (kind x == 9) = false := by rw [beq_eq_false_iff_ne]; have := kind_num x h; omega
    clear h
    go_enter Tryd.func16, Tryd.ntmps16
    go_wp2_with (go_at_call 13; refine (kind_any _ hx _).mono ?_; rintro e w' ⟨rfl, rfl⟩)
    go_ret
    exact ⟨ret_float Hk.out.symm, rfl⟩
set_option maxHeartbeats 400000 in
theorem isNaN_int (a : Int) (w : World) : Calls Tryd.prog 47 #[.int .i64 a] w fun e w' => e = .returned (.bool false) ∧ w = w' := by
  go_enter Tryd.func47, Tryd.ntmps47
  go_wp2
  go_ret
  exact ⟨rfl, rfl⟩
set_option maxHeartbeats 400000 in
theorem cmpInt_any (a b : Int) (w : World) : Calls Tryd.prog 39 #[.int .i64 a, .int .i64 b] w fun e w' => e = .returned (.int .i64 (cmpI a b)) ∧ w = w' := by
  by_cases h : a < b
  · have Hk := Lib.hid (show cmpI a b = -1 from if_pos h)
    go_enter Tryd.func39, Tryd.ntmps39
    go_wp2_with (go_at_call 47; refine (isNaN_int _ _).mono ?_; rintro e w' ⟨rfl, rfl⟩)
    go_ret
    exact ⟨ret_int Hk.out.symm, rfl⟩
  by_cases h2 : b < a
  · have Hk := Lib.hid (show cmpI a b = 1 from (if_neg h).trans (if_pos h2))
    go_enter Tryd.func39, Tryd.ntmps39
    go_wp2_with (go_at_call 47; refine (isNaN_int _ _).mono ?_; rintro e w' ⟨rfl, rfl⟩)
    go_ret
    exact ⟨ret_int Hk.out.symm, rfl⟩
  · have Hk := Lib.hid (show cmpI a b = 0 from (if_neg h).trans (if_neg h2))
    go_enter Tryd.func39, Tryd.ntmps39
    go_wp2_with (go_at_call 47; refine (isNaN_int _ _).mono ?_; rintro e w' ⟨rfl, rfl⟩)
    go_ret
    exact ⟨ret_int Hk.out.symm, rfl⟩
set_option maxHeartbeats 400000 in
set_option maxRecDepth 100000 in
theorem cmp_kinds (a b : Nat) (ha : a < 18446744073709551616) (hb : b < 18446744073709551616) (h : kind a ≠ kind b) (w : World) : Calls Tryd.prog 18 #[.float .f64 a, .float .f64 b] w fun e w' => e = .returned (.int .i64 (cmpN a b)) ∧ w = w' := by
    have Hk : Hid (cmpI (kind a) (kind b) = cmpN a b) := Lib.hid (by
      unfold cmpI cmpN
      by_cases h1 : kind a < kind b
      · rw [if_pos h1, if_pos (kind_lt a b ha hb h1)]
      · have h2 : kind b < kind a := by omega
        have := kind_lt b a hb ha h2
        rw [if_neg h1, if_pos h2, if_neg (by omega), if_pos this])
    have k : (cmpI (kind a) (kind b) != 0) = true := by
      rw [bne_iff_ne]; unfold cmpI; (repeat' split) <;> omega
    clear h
    go_enter Tryd.func18, Tryd.ntmps18
    go_wp2_with (first | (go_at_call 13; refine (kind_any _ (by assumption) _).mono ?_; rintro e w' ⟨rfl, rfl⟩) | (go_at_call 39; refine (cmpInt_any _ _ _).mono ?_; rintro e w' ⟨rfl, rfl⟩))
    go_ret
    exact ⟨ret_int Hk.out, rfl⟩
set_option maxHeartbeats 400000 in
set_option maxRecDepth 100000 in
theorem cmp_lt (a b : Nat) (ha : a < 18446744073709551616) (hb : b < 18446744073709551616) (h : kind a = kind b) (hr : rank a < rank b) (w : World) : Calls Tryd.prog 18 #[.float .f64 a, .float .f64 b] w fun e w' => e = .returned (.int .i64 (cmpN a b)) ∧ w = w' := by
    have Hk := Lib.hid (show -1 = cmpN a b by unfold cmpN; rw [if_pos hr])
    have k : (cmpI (kind a) (kind b) != 0) = false := by rw [bne_eq_false_iff_eq]; unfold cmpI; rw [if_neg (by omega), if_neg (by omega)]
    have o1 : (FloatKind.f64.format.order a b == some .lt) = true := (same_order a b ha hb h).1 hr
    clear h hr
    go_enter Tryd.func18, Tryd.ntmps18
    go_wp2_with (first | (go_at_call 13; refine (kind_any _ (by assumption) _).mono ?_; rintro e w' ⟨rfl, rfl⟩) | (go_at_call 39; refine (cmpInt_any _ _ _).mono ?_; rintro e w' ⟨rfl, rfl⟩))
    go_ret
    exact ⟨ret_int Hk.out, rfl⟩
set_option maxHeartbeats 400000 in
set_option maxRecDepth 100000 in
theorem cmp_gt (a b : Nat) (ha : a < 18446744073709551616) (hb : b < 18446744073709551616) (h : kind a = kind b) (hr : rank b < rank a) (w : World) : Calls Tryd.prog 18 #[.float .f64 a, .float .f64 b] w fun e w' => e = .returned (.int .i64 (cmpN a b)) ∧ w = w' := by
    have Hk := Lib.hid (show 1 = cmpN a b by unfold cmpN; rw [if_neg (by omega), if_pos hr])
    have k : (cmpI (kind a) (kind b) != 0) = false := by rw [bne_eq_false_iff_eq]; unfold cmpI; rw [if_neg (by omega), if_neg (by omega)]
    have o1 : (FloatKind.f64.format.order a b == some .lt) = false := ((same_order a b ha hb h).2.1 hr).1
    have o2 : (FloatKind.f64.format.order a b == some .gt) = true := ((same_order a b ha hb h).2.1 hr).2
    clear h hr
    go_enter Tryd.func18, Tryd.ntmps18
    go_wp2_with (first | (go_at_call 13; refine (kind_any _ (by assumption) _).mono ?_; rintro e w' ⟨rfl, rfl⟩) | (go_at_call 39; refine (cmpInt_any _ _ _).mono ?_; rintro e w' ⟨rfl, rfl⟩))
    go_ret
    exact ⟨ret_int Hk.out, rfl⟩
set_option maxHeartbeats 400000 in
set_option maxRecDepth 100000 in
theorem cmp_eq (a b : Nat) (ha : a < 18446744073709551616) (hb : b < 18446744073709551616) (h : kind a = kind b) (hr : rank a = rank b) (w : World) : Calls Tryd.prog 18 #[.float .f64 a, .float .f64 b] w fun e w' => e = .returned (.int .i64 (cmpN a b)) ∧ w = w' := by
    have Hk := Lib.hid (show 0 = cmpN a b by unfold cmpN; rw [if_neg (by omega), if_neg (by omega)])
    have k : (cmpI (kind a) (kind b) != 0) = false := by rw [bne_eq_false_iff_eq]; unfold cmpI; rw [if_neg (by omega), if_neg (by omega)]
    have o1 : (FloatKind.f64.format.order a b == some .lt) = false := ((same_order a b ha hb h).2.2 hr).1
    have o2 : (FloatKind.f64.format.order a b == some .gt) = false := ((same_order a b ha hb h).2.2 hr).2
    clear h hr
    go_enter Tryd.func18, Tryd.ntmps18
    go_wp2_with (first | (go_at_call 13; refine (kind_any _ (by assumption) _).mono ?_; rintro e w' ⟨rfl, rfl⟩) | (go_at_call 39; refine (cmpInt_any _ _ _).mono ?_; rintro e w' ⟨rfl, rfl⟩))
    go_ret
    exact ⟨ret_int Hk.out, rfl⟩
theorem cmp_any (a b : Nat) (ha : a < 18446744073709551616) (hb : b < 18446744073709551616) (w : World) : Calls Tryd.prog 18 #[.float .f64 a, .float .f64 b] w fun e w' => e = .returned (.int .i64 (cmpN a b)) ∧ w = w' := by
  by_cases h : kind a = kind b
  · by_cases h1 : rank a < rank b
    · exact cmp_lt a b ha hb h h1 w
    · by_cases h2 : rank b < rank a
      · exact cmp_gt a b ha hb h h2 w
      · exact cmp_eq a b ha hb h (by omega) w
  · exact cmp_kinds a b ha hb h w
set_option maxHeartbeats 400000 in
set_option maxRecDepth 100000 in
theorem refOne_any (x : Nat) (hx : x < 18446744073709551616) (w : World) : Calls Tryd.prog 17 #[.float .f64 x] w fun e w' => e = .returned (.int .u64 (oneN x)) ∧ w = w' := by
  have a := and_mag x hx
  by_cases h : 9218868437227405312 < mag x
  · have Hk := Lib.hid (one_nan x h)
    have k : decide ((9218868437227405312 : Int) < (mag x : Int)) = true := by rw [decide_eq_true_eq]; omega
    clear h hx
    go_enter Tryd.func17, Tryd.ntmps17
    go_wp2
    go_ret
    exact ⟨ret_int (by rw [Hk.out]; rfl), rfl⟩
  · have Hk := Lib.hid (one_num x h)
    have k : decide ((9218868437227405312 : Int) < (mag x : Int)) = false := by rw [decide_eq_false_iff_not]; omega
    clear h hx
    go_enter Tryd.func17, Tryd.ntmps17
    go_wp2
    go_ret
    exact ⟨ret_int (by rw [Hk.out]), rfl⟩
theorem bits_any (x : Nat) (w : World) : Calls Tryd.prog 15 #[.float .f64 x] w fun e w' => e = .returned (.int .u64 x) ∧ w = w' := by
  go_enter Tryd.func15, Tryd.ntmps15
  go_wp2
  go_ret
  exact ⟨rfl, rfl⟩
theorem copysign_m (w : World) : Calls Tryd.prog 36 #[.float .f64 0, .float .f64 13830554455654793216] w fun e w' => e = .returned (.float .f64 9223372036854775808) ∧ w = w' := by
  go_enter Tryd.func36, Tryd.ntmps36
  go_wp2
  go_ret
  exact ⟨rfl, rfl⟩
end Go.Proofs.YtgcmjmnolkojhaaDoor.NumW
