/- Walks of num.Kind and what it calls. -/
import Derived.Test.YtjglgglolbkjlaaNumPlain
import Derived.Test.YtjglgglolbkjlaaRows
import Derived.WalkKit
import Derived.WalkSpells
import Derived.WalkLawsBesides
import Derived.Lib.Hide
namespace Go.Proofs.Ytjglgglolbkjlaa.NumW
open Go.RowKit NumP
theorem ret_int {k : IntKind} {a b : Int} (h : a = b) : Ending.returned (.int k a) = .returned (.int k b) := by rw [h]
@[go_sem] theorem run_f64bits (x : Nat) (w : World) : (callFunc 23 #[.float .f64 x]).run Try.prog w = .ok (.value (.int .u64 x)) w := by
  rw [run_callFunc_extern Try.func23 (by kernel_rfl) (by kernel_rfl) (by kernel_rfl) (show _ = some Extern.MathFloatBits.float64bits by kernel_rfl)]
  rfl
@[go_sem] theorem run_f64frombits (n : Int) (w : World) : (callFunc 35 #[.int .u64 n]).run Try.prog w = .ok (.value (.float .f64 n.toNat)) w := by
  rw [run_callFunc_extern Try.func35 (by kernel_rfl) (by kernel_rfl) (by kernel_rfl) (show _ = some Extern.MathFloatBits.float64frombits by kernel_rfl)]
  rfl
set_option maxHeartbeats 400000 in
theorem choose_t (a b : Int) (w : World) : Calls Try.prog 47 #[.bool true, .int .i64 a, .int .i64 b] w fun e w' => e = .returned (.int .i64 a) ∧ w = w' := by
  go_enter Try.func47, Try.ntmps47
  go_wp2
  go_ret
  exact ⟨rfl, rfl⟩
set_option maxHeartbeats 400000 in
theorem choose_f (a b : Int) (w : World) : Calls Try.prog 47 #[.bool false, .int .i64 a, .int .i64 b] w fun e w' => e = .returned (.int .i64 b) ∧ w = w' := by
  go_enter Try.func47, Try.ntmps47
  go_wp2
  go_ret
  exact ⟨rfl, rfl⟩
set_option maxHeartbeats 400000 in
set_option maxRecDepth 100000 in
theorem kind_arm1 (x : Nat) (hx : x < 18446744073709551616) (w : World) (h : 9218868437227405312 < mag x) : Calls Try.prog 38 #[.float .f64 x] w fun e w' => e = .returned (.int .i64 (kind x)) ∧ w = w' := by
  have a := andNot_sign x hx
  have t := (tests x).1 h
  obtain ⟨b1, hk⟩ := t
  have Hk := Lib.hid hk
  clear hx h hk
  go_enter Try.func38, Try.ntmps38
  go_wp2
  go_ret
  exact ⟨ret_int Hk.out.symm, rfl⟩
set_option maxHeartbeats 400000 in
set_option maxRecDepth 100000 in
theorem kind_arm2 (x : Nat) (hx : x < 18446744073709551616) (w : World) (h : mag x = 9218868437227405312) : Calls Try.prog 38 #[.float .f64 x] w fun e w' => e = .returned (.int .i64 (kind x)) ∧ w = w' := by
  have a := andNot_sign x hx
  have t := (tests x).2.1 h
  obtain ⟨b1, b2, hk⟩ := t
  by_cases hs : x = mag x
  · have s : ((x : Int) != (mag x : Int)) = false := by rw [bne_eq_false_iff_eq]; omega
    rw [if_pos hs] at hk
    have Hk := Lib.hid hk
    clear hx h hk hs
    go_enter Try.func38, Try.ntmps38
    go_wp2_with (go_at_call 47; refine (choose_f _ _ _).mono ?_; rintro e w' ⟨rfl, rfl⟩)
    go_ret
    exact ⟨ret_int Hk.out.symm, rfl⟩
  · have s : ((x : Int) != (mag x : Int)) = true := by rw [bne_iff_ne]; omega
    rw [if_neg hs] at hk
    have Hk := Lib.hid hk
    clear hx h hk hs
    go_enter Try.func38, Try.ntmps38
    go_wp2_with (go_at_call 47; refine (choose_t _ _ _).mono ?_; rintro e w' ⟨rfl, rfl⟩)
    go_ret
    exact ⟨ret_int Hk.out.symm, rfl⟩
set_option maxHeartbeats 400000 in
set_option maxRecDepth 100000 in
theorem kind_arm3 (x : Nat) (hx : x < 18446744073709551616) (w : World) (h : 4503599627370496 ≤ mag x) (h2 : mag x < 9218868437227405312) : Calls Try.prog 38 #[.float .f64 x] w fun e w' => e = .returned (.int .i64 (kind x)) ∧ w = w' := by
  have a := andNot_sign x hx
  have t := (tests x).2.2.1 h h2
  obtain ⟨b1, b2, b3, hk⟩ := t
  by_cases hs : x = mag x
  · have s : ((x : Int) != (mag x : Int)) = false := by rw [bne_eq_false_iff_eq]; omega
    rw [if_pos hs] at hk
    have Hk := Lib.hid hk
    clear hx h h2 hk hs
    go_enter Try.func38, Try.ntmps38
    go_wp2_with (go_at_call 47; refine (choose_f _ _ _).mono ?_; rintro e w' ⟨rfl, rfl⟩)
    go_ret
    exact ⟨ret_int Hk.out.symm, rfl⟩
  · have s : ((x : Int) != (mag x : Int)) = true := by rw [bne_iff_ne]; omega
    rw [if_neg hs] at hk
    have Hk := Lib.hid hk
    clear hx h h2 hk hs
    go_enter Try.func38, Try.ntmps38
    go_wp2_with (go_at_call 47; refine (choose_t _ _ _).mono ?_; rintro e w' ⟨rfl, rfl⟩)
    go_ret
    exact ⟨ret_int Hk.out.symm, rfl⟩
set_option maxHeartbeats 400000 in
set_option maxRecDepth 100000 in
theorem kind_arm4 (x : Nat) (hx : x < 18446744073709551616) (w : World) (h : 0 < mag x) (h2 : mag x < 4503599627370496) : Calls Try.prog 38 #[.float .f64 x] w fun e w' => e = .returned (.int .i64 (kind x)) ∧ w = w' := by
  have a := andNot_sign x hx
  have t := (tests x).2.2.2.1 h h2
  obtain ⟨b1, b2, b3, _, hk⟩ := t
  have b4 : decide (0 < mag x) = true := by rw [decide_eq_true_eq]; exact h
  by_cases hs : x = mag x
  · have s : ((x : Int) != (mag x : Int)) = false := by rw [bne_eq_false_iff_eq]; omega
    rw [if_pos hs] at hk
    have Hk := Lib.hid hk
    clear hx h h2 hk hs
    go_enter Try.func38, Try.ntmps38
    go_wp2_with (go_at_call 47; refine (choose_f _ _ _).mono ?_; rintro e w' ⟨rfl, rfl⟩)
    go_ret
    exact ⟨ret_int Hk.out.symm, rfl⟩
  · have s : ((x : Int) != (mag x : Int)) = true := by rw [bne_iff_ne]; omega
    rw [if_neg hs] at hk
    have Hk := Lib.hid hk
    clear hx h h2 hk hs
    go_enter Try.func38, Try.ntmps38
    go_wp2_with (go_at_call 47; refine (choose_t _ _ _).mono ?_; rintro e w' ⟨rfl, rfl⟩)
    go_ret
    exact ⟨ret_int Hk.out.symm, rfl⟩
set_option maxHeartbeats 400000 in
set_option maxRecDepth 100000 in
theorem kind_arm5 (x : Nat) (hx : x < 18446744073709551616) (w : World) (h : mag x = 0) : Calls Try.prog 38 #[.float .f64 x] w fun e w' => e = .returned (.int .i64 (kind x)) ∧ w = w' := by
  have a := andNot_sign x hx
  have t := (tests x).2.2.2.2 h
  obtain ⟨b1, b2, b3, _, hk⟩ := t
  have b4 : decide (0 < mag x) = false := by rw [decide_eq_false_iff_not]; omega
  by_cases hs : x = mag x
  · have s : ((x : Int) != (mag x : Int)) = false := by rw [bne_eq_false_iff_eq]; omega
    rw [if_pos hs] at hk
    have Hk := Lib.hid hk
    clear hx h hk hs
    go_enter Try.func38, Try.ntmps38
    go_wp2_with (go_at_call 47; refine (choose_f _ _ _).mono ?_; rintro e w' ⟨rfl, rfl⟩)
    go_ret
    exact ⟨ret_int Hk.out.symm, rfl⟩
  · have s : ((x : Int) != (mag x : Int)) = true := by rw [bne_iff_ne]; omega
    rw [if_neg hs] at hk
    have Hk := Lib.hid hk
    clear hx h hk hs
    go_enter Try.func38, Try.ntmps38
    go_wp2_with (go_at_call 47; refine (choose_t _ _ _).mono ?_; rintro e w' ⟨rfl, rfl⟩)
    go_ret
    exact ⟨ret_int Hk.out.symm, rfl⟩
theorem kind_any (x : Nat) (hx : x < 18446744073709551616) (w : World) : Calls Try.prog 38 #[.float .f64 x] w fun e w' => e = .returned (.int .i64 (kind x)) ∧ w = w' := by
  by_cases h1 : 9218868437227405312 < mag x
  · exact kind_arm1 x hx w h1
  by_cases h2 : mag x = 9218868437227405312
  · exact kind_arm2 x hx w h2
  by_cases h3 : 4503599627370496 ≤ mag x
  · exact kind_arm3 x hx w h3 (by omega)
  by_cases h4 : 0 < mag x
  · exact kind_arm4 x hx w h4 (by omega)
  · exact kind_arm5 x hx w (by omega)
end Go.Proofs.Ytjglgglolbkjlaa.NumW

