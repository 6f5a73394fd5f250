/- Walks of num.One, num.Compare and what they call. -/
import Derived.Test.YtjglgglolbkjlaaNumWalk1
import Derived.Test.YtjglgglolbkjlaaNumPlain
namespace Go.Proofs.Ytjglgglolbkjlaa.NumW
open Go.RowKit NumP
theorem ret_float {k : FloatKind} {a b : Nat} (h : a = b) : Ending.returned (.float k a) = .returned (.float k b) := by rw [h]
set_option maxHeartbeats 400000 in
set_option maxRecDepth 100000 in
theorem one_any (x : Nat) (hx : x < 18446744073709551616) (w : World) : Calls Try.prog 33 #[.float .f64 x] w fun e w' => e = .returned (.float .f64 (oneN x)) ∧ w = w' := by
  by_cases h : 9218868437227405312 < mag x
  · have Hk := Lib.hid (one_nan x h)
    have k : (kind x == 9) = true := by rw [beq_iff_eq]; exact kind_nan x h
    clear h
    go_enter Try.func33, Try.ntmps33
    go_wp2_with (go_at_call 38; refine (kind_any _ hx _).mono ?_; rintro e w' ⟨rfl, rfl⟩)
    go_ret
    exact ⟨ret_float Hk.out.symm, rfl⟩
  · have Hk := Lib.hid (one_num x h)
    have k : (kind x == 9) = false := by rw [beq_eq_false_iff_ne]; have := kind_num x h; omega
    clear h
    go_enter Try.func33, Try.ntmps33
    go_wp2_with (go_at_call 38; refine (kind_any _ hx _).mono ?_; rintro e w' ⟨rfl, rfl⟩)
    go_ret
    exact ⟨ret_float Hk.out.symm, rfl⟩
set_option maxHeartbeats 400000 in
set_option maxRecDepth 100000 in
theorem refOne_any (x : Nat) (hx : x < 18446744073709551616) (w : World) : Calls Try.prog 20 #[.float .f64 x] w fun e w' => e = .returned (.int .u64 (oneN x)) ∧ w = w' := by
  have a := and_mag x hx
  by_cases h : 9218868437227405312 < mag x
  · have Hk := Lib.hid (one_nan x h)
    have k : decide ((9218868437227405312 : Int) < (mag x : Int)) = true := by rw [decide_eq_true_eq]; omega
    clear h hx
    go_enter Try.func20, Try.ntmps20
    go_wp2
    go_ret
    exact ⟨ret_int (by rw [Hk.out]; rfl), rfl⟩
  · have Hk := Lib.hid (one_num x h)
    have k : decide ((9218868437227405312 : Int) < (mag x : Int)) = false := by rw [decide_eq_false_iff_not]; omega
    clear h hx
    go_enter Try.func20, Try.ntmps20
    go_wp2
    go_ret
    exact ⟨ret_int (by rw [Hk.out]), rfl⟩
end Go.Proofs.Ytjglgglolbkjlaa.NumW

