/- Walks of the document's Kind, Rank and Compare. -/
import Derived.Test.YtgcmjmnolkojhaaDoorNumWalk2
namespace Go.Proofs.YtgcmjmnolkojhaaDoor.NumW
open Go.RowKit NumP
theorem cases_le (x : Nat) : 9218868437227405312 < mag x ∨ mag x = 9218868437227405312 ∨ (4503599627370496 ≤ mag x ∧ mag x < 9218868437227405312) ∨ (0 < mag x ∧ mag x < 4503599627370496) ∨ mag x = 0 := by omega
set_option maxHeartbeats 400000 in
set_option maxRecDepth 100000 in
theorem refKind_arm1 (x : Nat) (hx : x < 18446744073709551616) (w : World) (h : 9218868437227405312 < mag (oneN x)) : Calls Tryd.prog 14 #[.float .f64 x] w fun e w' => e = .returned (.int .i64 (kind x)) ∧ w = w' := by
  have a := and_mag (oneN x) (one_lt x hx)
  have t := (tests (oneN x)).1 h
  obtain ⟨b1, hk⟩ := t
  have Hk := Lib.hid hk
  clear h hk
  · go_enter Tryd.func14, Tryd.ntmps14
    go_wp2_with (go_at_call 17; refine (refOne_any _ hx _).mono ?_; rintro e w' ⟨rfl, rfl⟩)
    go_ret
    exact ⟨ret_int (by rw [← kind_one x]; exact Hk.out.symm), rfl⟩
set_option maxHeartbeats 400000 in
set_option maxRecDepth 100000 in
theorem refKind_arm2 (x : Nat) (hx : x < 18446744073709551616) (w : World) (h : mag (oneN x) = 9218868437227405312) : Calls Tryd.prog 14 #[.float .f64 x] w fun e w' => e = .returned (.int .i64 (kind x)) ∧ w = w' := by
  have a := and_mag (oneN x) (one_lt x hx)
  have t := (tests (oneN x)).2.1 h
  obtain ⟨b1, b2, hk⟩ := t
  by_cases hs : oneN x = mag (oneN x)
  · have s := (sign_mag (oneN x) (one_lt x hx)).1 hs
    rw [if_pos hs] at hk
    have Hk := Lib.hid hk
    clear h hk hs
    go_enter Tryd.func14, Tryd.ntmps14
    go_wp2_with (go_at_call 17; refine (refOne_any _ hx _).mono ?_; rintro e w' ⟨rfl, rfl⟩)
    go_ret
    exact ⟨ret_int (by rw [← kind_one x]; exact Hk.out.symm), rfl⟩
  · have s := (sign_mag (oneN x) (one_lt x hx)).2 hs
    rw [if_neg hs] at hk
    have Hk := Lib.hid hk
    clear h hk hs
    go_enter Tryd.func14, Tryd.ntmps14
    go_wp2_with (go_at_call 17; refine (refOne_any _ hx _).mono ?_; rintro e w' ⟨rfl, rfl⟩)
    go_ret
    exact ⟨ret_int (by rw [← kind_one x]; exact Hk.out.symm), rfl⟩
set_option maxHeartbeats 400000 in
set_option maxRecDepth 100000 in
theorem refKind_arm3 (x : Nat) (hx : x < 18446744073709551616) (w : World) (h : 4503599627370496 ≤ mag (oneN x)) (h2 : mag (oneN x) < 9218868437227405312) : Calls Tryd.prog 14 #[.float .f64 x] w fun e w' => e = .returned (.int .i64 (kind x)) ∧ w = w' := by
  have a := and_mag (oneN x) (one_lt x hx)
  have t := (tests (oneN x)).2.2.1 h h2
  obtain ⟨b1, b2, b3, hk⟩ := t
  by_cases hs : oneN x = mag (oneN x)
  · have s := (sign_mag (oneN x) (one_lt x hx)).1 hs
    rw [if_pos hs] at hk
    have Hk := Lib.hid hk
    clear h h2 hk hs
    go_enter Tryd.func14, Tryd.ntmps14
    go_wp2_with (go_at_call 17; refine (refOne_any _ hx _).mono ?_; rintro e w' ⟨rfl, rfl⟩)
    go_ret
    exact ⟨ret_int (by rw [← kind_one x]; exact Hk.out.symm), rfl⟩
  · have s := (sign_mag (oneN x) (one_lt x hx)).2 hs
    rw [if_neg hs] at hk
    have Hk := Lib.hid hk
    clear h h2 hk hs
    go_enter Tryd.func14, Tryd.ntmps14
    go_wp2_with (go_at_call 17; refine (refOne_any _ hx _).mono ?_; rintro e w' ⟨rfl, rfl⟩)
    go_ret
    exact ⟨ret_int (by rw [← kind_one x]; exact Hk.out.symm), rfl⟩
set_option maxHeartbeats 400000 in
set_option maxRecDepth 100000 in
theorem refKind_arm4 (x : Nat) (hx : x < 18446744073709551616) (w : World) (h : 0 < mag (oneN x)) (h2 : mag (oneN x) < 4503599627370496) : Calls Tryd.prog 14 #[.float .f64 x] w fun e w' => e = .returned (.int .i64 (kind x)) ∧ w = w' := by
  have a := and_mag (oneN x) (one_lt x hx)
  have t := (tests (oneN x)).2.2.2.1 h h2
  obtain ⟨b1, b2, b3, _, hk⟩ := t
  have b4 : decide (0 < mag (oneN x)) = true := by rw [decide_eq_true_eq]; exact h
  by_cases hs : oneN x = mag (oneN x)
  · have s := (sign_mag (oneN x) (one_lt x hx)).1 hs
    rw [if_pos hs] at hk
    have Hk := Lib.hid hk
    clear h h2 hk hs
    go_enter Tryd.func14, Tryd.ntmps14
    go_wp2_with (go_at_call 17; refine (refOne_any _ hx _).mono ?_; rintro e w' ⟨rfl, rfl⟩)
    go_ret
    exact ⟨ret_int (by rw [← kind_one x]; exact Hk.out.symm), rfl⟩
  · have s := (sign_mag (oneN x) (one_lt x hx)).2 hs
    rw [if_neg hs] at hk
    have Hk := Lib.hid hk
    clear h h2 hk hs
    go_enter Tryd.func14, Tryd.ntmps14
    go_wp2_with (go_at_call 17; refine (refOne_any _ hx _).mono ?_; rintro e w' ⟨rfl, rfl⟩)
    go_ret
    exact ⟨ret_int (by rw [← kind_one x]; exact Hk.out.symm), rfl⟩
set_option maxHeartbeats 400000 in
set_option maxRecDepth 100000 in
theorem refKind_arm5 (x : Nat) (hx : x < 18446744073709551616) (w : World) (h : mag (oneN x) = 0) : Calls Tryd.prog 14 #[.float .f64 x] w fun e w' => e = .returned (.int .i64 (kind x)) ∧ w = w' := by
  have a := and_mag (oneN x) (one_lt x hx)
  have t := (tests (oneN x)).2.2.2.2 h
  obtain ⟨b1, b2, b3, _, hk⟩ := t
  have b4 : decide (0 < mag (oneN x)) = false := by rw [decide_eq_false_iff_not]; omega
  by_cases hs : oneN x = mag (oneN x)
  · have s := (sign_mag (oneN x) (one_lt x hx)).1 hs
    rw [if_pos hs] at hk
    have Hk := Lib.hid hk
    clear h hk hs
    go_enter Tryd.func14, Tryd.ntmps14
    go_wp2_with (go_at_call 17; refine (refOne_any _ hx _).mono ?_; rintro e w' ⟨rfl, rfl⟩)
    go_ret
    exact ⟨ret_int (by rw [← kind_one x]; exact Hk.out.symm), rfl⟩
  · have s := (sign_mag (oneN x) (one_lt x hx)).2 hs
    rw [if_neg hs] at hk
    have Hk := Lib.hid hk
    clear h hk hs
    go_enter Tryd.func14, Tryd.ntmps14
    go_wp2_with (go_at_call 17; refine (refOne_any _ hx _).mono ?_; rintro e w' ⟨rfl, rfl⟩)
    go_ret
    exact ⟨ret_int (by rw [← kind_one x]; exact Hk.out.symm), rfl⟩
theorem refKind_any (x : Nat) (hx : x < 18446744073709551616) (w : World) : Calls Tryd.prog 14 #[.float .f64 x] w fun e w' => e = .returned (.int .i64 (kind x)) ∧ w = w' := by
  rcases cases_le (oneN x) with h | h | ⟨h, h2⟩ | ⟨h, h2⟩ | h
  · exact refKind_arm1 x hx w h
  · exact refKind_arm2 x hx w h
  · exact refKind_arm3 x hx w h h2
  · exact refKind_arm4 x hx w h h2
  · exact refKind_arm5 x hx w h
set_option maxHeartbeats 400000 in
set_option maxRecDepth 100000 in
theorem rank_nan (x : Nat) (hx : x < 18446744073709551616) (h : 9218868437227405312 < mag x) (w : World) : Calls Tryd.prog 40 #[.float .f64 x] w fun e w' => e = .returned (.int .u64 (rank x)) ∧ w = w' := by
  have Hk := Lib.hid (show rank x = 18446744073709551615 from if_pos h)
  have k : (kind x == 9) = true := by rw [beq_iff_eq]; exact kind_nan x h
  clear h
  go_enter Tryd.func40, Tryd.ntmps40
  go_wp2_with (first | (go_at_call 17; refine (refOne_any _ (by assumption) _).mono ?_; rintro e w' ⟨rfl, rfl⟩) | (go_at_call 14; refine (refKind_any _ (by assumption) _).mono ?_; rintro e w' ⟨rfl, rfl⟩))
  go_ret
  exact ⟨ret_int (by rw [Hk.out]; rfl), rfl⟩
set_option maxHeartbeats 400000 in
set_option maxRecDepth 100000 in
theorem rank_neg (x : Nat) (hx : x < 18446744073709551616) (h : ¬ 9218868437227405312 < mag x) (hs : 9223372036854775808 ≤ x) (w : World) : Calls Tryd.prog 40 #[.float .f64 x] w fun e w' => e = .returned (.int .u64 (rank x)) ∧ w = w' := by
  have Hk := Lib.hid (show rank x = 9223372036854775808 - (x - 9223372036854775808) - 1 from (if_neg h).trans (if_pos hs))
  have k : (kind x == 9) = false := by rw [beq_eq_false_iff_ne]; have := kind_num x h; omega
  have Ho := Lib.hid (one_num x h)
  clear h
  have g1 : (9223372036854775808 : Int) ≤ (x : Int) := by omega
  have g2 : (x : Int) < 18446744073709551616 := by omega
  clear hs
  go_enter Tryd.func40, Tryd.ntmps40
  go_wp2_with (first | (go_at_call 17; refine (refOne_any _ (by assumption) _).mono ?_; rintro e w' ⟨rfl, rfl⟩; rw [Ho.out]) | (go_at_call 14; refine (refKind_any _ (by assumption) _).mono ?_; rintro e w' ⟨rfl, rfl⟩))
  go_ret
  exact ⟨ret_int (by rw [Hk.out]; omega), rfl⟩
set_option maxHeartbeats 400000 in
set_option maxRecDepth 100000 in
theorem rank_pos (x : Nat) (hx : x < 18446744073709551616) (h : ¬ 9218868437227405312 < mag x) (hs : ¬ 9223372036854775808 ≤ x) (w : World) : Calls Tryd.prog 40 #[.float .f64 x] w fun e w' => e = .returned (.int .u64 (rank x)) ∧ w = w' := by
  have Hk := Lib.hid (show rank x = psum x from (if_neg h).trans (if_neg hs))
  have k : (kind x == 9) = false := by rw [beq_eq_false_iff_ne]; have := kind_num x h; omega
  have Ho := Lib.hid (one_num x h)
  clear h
  have g1 : ¬ (9223372036854775808 : Int) ≤ (x : Int) := by omega
  have g2 : (x : Int) < 9223372036854775808 := by omega
  have sm := rank_sum x hs
  clear hs g1
  have g1 : decide ((9223372036854775808 : Int) ≤ (x : Int)) = false := by rw [decide_eq_false_iff_not]; omega
  clear g2
  go_enter Tryd.func40, Tryd.ntmps40
  go_wp2_with (first | (go_at_call 17; refine (refOne_any _ (by assumption) _).mono ?_; rintro e w' ⟨rfl, rfl⟩; rw [Ho.out]) | (go_at_call 14; refine (refKind_any _ (by assumption) _).mono ?_; rintro e w' ⟨rfl, rfl⟩))
  go_ret
  exact ⟨ret_int (by rw [Hk.out]), rfl⟩
theorem rank_any (x : Nat) (hx : x < 18446744073709551616) (w : World) : Calls Tryd.prog 40 #[.float .f64 x] w fun e w' => e = .returned (.int .u64 (rank x)) ∧ w = w' := by
  by_cases h : 9218868437227405312 < mag x
  · exact rank_nan x hx h w
  · by_cases hs : 9223372036854775808 ≤ x
    · exact rank_neg x hx h hs w
    · exact rank_pos x hx h hs w
set_option maxHeartbeats 400000 in
set_option maxRecDepth 100000 in
theorem refCmp_lt (a b : Nat) (ha : a < 18446744073709551616) (hb : b < 18446744073709551616) (h : rank a < rank b) (w : World) : Calls Tryd.prog 19 #[.float .f64 a, .float .f64 b] w fun e w' => e = .returned (.int .i64 (cmpN a b)) ∧ w = w' := by
  have Hk := Lib.hid (show -1 = cmpN a b by unfold cmpN; rw [if_pos h])
  have k1 : decide (rank a < rank b) = true := by rw [decide_eq_true_eq]; exact h
  clear h
  go_enter Tryd.func19, Tryd.ntmps19
  go_wp2_with (go_at_call 40; refine (rank_any _ (by assumption) _).mono ?_; rintro e w' ⟨rfl, rfl⟩)
  go_ret
  exact ⟨ret_int Hk.out, rfl⟩
set_option maxHeartbeats 400000 in
set_option maxRecDepth 100000 in
theorem refCmp_gt (a b : Nat) (ha : a < 18446744073709551616) (hb : b < 18446744073709551616) (h : rank b < rank a) (w : World) : Calls Tryd.prog 19 #[.float .f64 a, .float .f64 b] w fun e w' => e = .returned (.int .i64 (cmpN a b)) ∧ w = w' := by
  have Hk := Lib.hid (show 1 = cmpN a b by unfold cmpN; rw [if_neg (by omega), if_pos h])
  have k1 : decide (rank a < rank b) = false := by rw [decide_eq_false_iff_not]; omega
  have k2 : decide (rank b < rank a) = true := by rw [decide_eq_true_eq]; exact h
  clear h
  go_enter Tryd.func19, Tryd.ntmps19
  go_wp2_with (go_at_call 40; refine (rank_any _ (by assumption) _).mono ?_; rintro e w' ⟨rfl, rfl⟩)
  go_ret
  exact ⟨ret_int Hk.out, rfl⟩
set_option maxHeartbeats 400000 in
set_option maxRecDepth 100000 in
theorem refCmp_eq (a b : Nat) (ha : a < 18446744073709551616) (hb : b < 18446744073709551616) (h : rank a = rank b) (w : World) : Calls Tryd.prog 19 #[.float .f64 a, .float .f64 b] w fun e w' => e = .returned (.int .i64 (cmpN a b)) ∧ w = w' := by
  have Hk := Lib.hid (show 0 = cmpN a b by unfold cmpN; rw [if_neg (by omega), if_neg (by omega)])
  have k1 : decide (rank a < rank b) = false := by rw [decide_eq_false_iff_not]; omega
  have k2 : decide (rank b < rank a) = false := by rw [decide_eq_false_iff_not]; omega
  clear h
  go_enter Tryd.func19, Tryd.ntmps19
  go_wp2_with (go_at_call 40; refine (rank_any _ (by assumption) _).mono ?_; rintro e w' ⟨rfl, rfl⟩)
  go_ret
  exact ⟨ret_int Hk.out, rfl⟩
theorem refCmp_any (a b : Nat) (ha : a < 18446744073709551616) (hb : b < 18446744073709551616) (w : World) : Calls Tryd.prog 19 #[.float .f64 a, .float .f64 b] w fun e w' => e = .returned (.int .i64 (cmpN a b)) ∧ w = w' := by
  by_cases h1 : rank a < rank b
  · exact refCmp_lt a b ha hb h1 w
  · by_cases h2 : rank b < rank a
    · exact refCmp_gt a b ha hb h2 w
    · exact refCmp_eq a b ha hb (by omega) w
end Go.Proofs.YtgcmjmnolkojhaaDoor.NumW
