/- Walks of the document's Kind, Rank and Compare. -/
import Derived.Test.YtmpceabhnhipcaaNumWalk2
namespace Go.Proofs.Ytmpceabhnhipcaa.NumW
open Go.RowKit NumP
theorem cases_le (x : Nat) : 9218868437227405312 < mag x ∨ mag x = 9218868437227405312 ∨ (4503599627370496 ≤ mag x ∧ mag x < 9218868437227405312) ∨ (0 < mag x ∧ mag x < 4503599627370496) ∨ mag x = 0 := by omega
set_option maxHeartbeats 400000 in
set_option maxRecDepth 100000 in
theorem refKind_arm1 (x : Nat) (hx : x < 18446744073709551616) (w : World) (h : 9218868437227405312 < mag (oneN x)) : Calls Try.prog 48 #[.float .f64 x] w fun e w' => e = .returned (.int .i64 (kind x)) ∧ w = w' := by
  have a := and_mag (oneN x) (one_lt x hx)
  have t := (tests (oneN x)).1 h
  obtain ⟨b1, hk⟩ := t
  have Hk := Lib.hid hk
  clear h hk
  · go_enter Try.func48, Try.ntmps48
    go_wp2_with (go_at_call 47; refine (refOne_any _ hx _).mono ?_; rintro e w' ⟨rfl, rfl⟩)
    go_ret
    exact ⟨ret_int (by rw [← kind_one x]; exact Hk.out.symm), rfl⟩
set_option maxHeartbeats 400000 in
set_option maxRecDepth 100000 in
theorem refKind_arm2 (x : Nat) (hx : x < 18446744073709551616) (w : World) (h : mag (oneN x) = 9218868437227405312) : Calls Try.prog 48 #[.float .f64 x] w fun e w' => e = .returned (.int .i64 (kind x)) ∧ w = w' := by
  have a := and_mag (oneN x) (one_lt x hx)
  have t := (tests (oneN x)).2.1 h
  obtain ⟨b1, b2, hk⟩ := t
  by_cases hs : oneN x = mag (oneN x)
  · have s := (sign_mag (oneN x) (one_lt x hx)).1 hs
    rw [if_pos hs] at hk
    have Hk := Lib.hid hk
    clear h hk hs
    go_enter Try.func48, Try.ntmps48
    go_wp2_with (go_at_call 47; refine (refOne_any _ hx _).mono ?_; rintro e w' ⟨rfl, rfl⟩)
    go_ret
    exact ⟨ret_int (by rw [← kind_one x]; exact Hk.out.symm), rfl⟩
  · have s := (sign_mag (oneN x) (one_lt x hx)).2 hs
    rw [if_neg hs] at hk
    have Hk := Lib.hid hk
    clear h hk hs
    go_enter Try.func48, Try.ntmps48
    go_wp2_with (go_at_call 47; refine (refOne_any _ hx _).mono ?_; rintro e w' ⟨rfl, rfl⟩)
    go_ret
    exact ⟨ret_int (by rw [← kind_one x]; exact Hk.out.symm), rfl⟩
set_option maxHeartbeats 400000 in
set_option maxRecDepth 100000 in
theorem refKind_arm3 (x : Nat) (hx : x < 18446744073709551616) (w : World) (h : 4503599627370496 ≤ mag (oneN x)) (h2 : mag (oneN x) < 9218868437227405312) : Calls Try.prog 48 #[.float .f64 x] w fun e w' => e = .returned (.int .i64 (kind x)) ∧ w = w' := by
  have a := and_mag (oneN x) (one_lt x hx)
  have t := (tests (oneN x)).2.2.1 h h2
  obtain ⟨b1, b2, b3, hk⟩ := t
  by_cases hs : oneN x = mag (oneN x)
  · have s := (sign_mag (oneN x) (one_lt x hx)).1 hs
    rw [if_pos hs] at hk
    have Hk := Lib.hid hk
    clear h h2 hk hs
    go_enter Try.func48, Try.ntmps48
    go_wp2_with (go_at_call 47; refine (refOne_any _ hx _).mono ?_; rintro e w' ⟨rfl, rfl⟩)
    go_ret
    exact ⟨ret_int (by rw [← kind_one x]; exact Hk.out.symm), rfl⟩
  · have s := (sign_mag (oneN x) (one_lt x hx)).2 hs
    rw [if_neg hs] at hk
    have Hk := Lib.hid hk
    clear h h2 hk hs
    go_enter Try.func48, Try.ntmps48
    go_wp2_with (go_at_call 47; refine (refOne_any _ hx _).mono ?_; rintro e w' ⟨rfl, rfl⟩)
    go_ret
    exact ⟨ret_int (by rw [← kind_one x]; exact Hk.out.symm), rfl⟩
set_option maxHeartbeats 400000 in
set_option maxRecDepth 100000 in
theorem refKind_arm4 (x : Nat) (hx : x < 18446744073709551616) (w : World) (h : 0 < mag (oneN x)) (h2 : mag (oneN x) < 4503599627370496) : Calls Try.prog 48 #[.float .f64 x] w fun e w' => e = .returned (.int .i64 (kind x)) ∧ w = w' := by
  have a := and_mag (oneN x) (one_lt x hx)
  have t := (tests (oneN x)).2.2.2.1 h h2
  obtain ⟨b1, b2, b3, _, hk⟩ := t
  have b4 : decide (0 < mag (oneN x)) = true := by rw [decide_eq_true_eq]; exact h
  by_cases hs : oneN x = mag (oneN x)
  · have s := (sign_mag (oneN x) (one_lt x hx)).1 hs
    rw [if_pos hs] at hk
    have Hk := Lib.hid hk
    clear h h2 hk hs
    go_enter Try.func48, Try.ntmps48
    go_wp2_with (go_at_call 47; refine (refOne_any _ hx _).mono ?_; rintro e w' ⟨rfl, rfl⟩)
    go_ret
    exact ⟨ret_int (by rw [← kind_one x]; exact Hk.out.symm), rfl⟩
  · have s := (sign_mag (oneN x) (one_lt x hx)).2 hs
    rw [if_neg hs] at hk
    have Hk := Lib.hid hk
    clear h h2 hk hs
    go_enter Try.func48, Try.ntmps48
    go_wp2_with (go_at_call 47; refine (refOne_any _ hx _).mono ?_; rintro e w' ⟨rfl, rfl⟩)
    go_ret
    exact ⟨ret_int (by rw [← kind_one x]; exact Hk.out.symm), rfl⟩
set_option maxHeartbeats 400000 in
set_option maxRecDepth 100000 in
theorem refKind_arm5 (x : Nat) (hx : x < 18446744073709551616) (w : World) (h : mag (oneN x) = 0) : Calls Try.prog 48 #[.float .f64 x] w fun e w' => e = .returned (.int .i64 (kind x)) ∧ w = w' := by
  have a := and_mag (oneN x) (one_lt x hx)
  have t := (tests (oneN x)).2.2.2.2 h
  obtain ⟨b1, b2, b3, _, hk⟩ := t
  have b4 : decide (0 < mag (oneN x)) = false := by rw [decide_eq_false_iff_not]; omega
  by_cases hs : oneN x = mag (oneN x)
  · have s := (sign_mag (oneN x) (one_lt x hx)).1 hs
    rw [if_pos hs] at hk
    have Hk := Lib.hid hk
    clear h hk hs
    go_enter Try.func48, Try.ntmps48
    go_wp2_with (go_at_call 47; refine (refOne_any _ hx _).mono ?_; rintro e w' ⟨rfl, rfl⟩)
    go_ret
    exact ⟨ret_int (by rw [← kind_one x]; exact Hk.out.symm), rfl⟩
  · have s := (sign_mag (oneN x) (one_lt x hx)).2 hs
    rw [if_neg hs] at hk
    have Hk := Lib.hid hk
    clear h hk hs
    go_enter Try.func48, Try.ntmps48
    go_wp2_with (go_at_call 47; refine (refOne_any _ hx _).mono ?_; rintro e w' ⟨rfl, rfl⟩)
    go_ret
    exact ⟨ret_int (by rw [← kind_one x]; exact Hk.out.symm), rfl⟩
theorem refKind_any (x : Nat) (hx : x < 18446744073709551616) (w : World) : Calls Try.prog 48 #[.float .f64 x] w fun e w' => e = .returned (.int .i64 (kind x)) ∧ w = w' := by
  rcases cases_le (oneN x) with h | h | ⟨h, h2⟩ | ⟨h, h2⟩ | h
  · exact refKind_arm1 x hx w h
  · exact refKind_arm2 x hx w h
  · exact refKind_arm3 x hx w h h2
  · exact refKind_arm4 x hx w h h2
  · exact refKind_arm5 x hx w h
end Go.Proofs.Ytmpceabhnhipcaa.NumW

