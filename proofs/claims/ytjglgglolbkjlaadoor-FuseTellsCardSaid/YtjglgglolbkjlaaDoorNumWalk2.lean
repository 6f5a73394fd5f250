/- Walks of num.One, num.Compare and what they call. -/
import Derived.Test.YtjglgglolbkjlaaDoorNumWalk1
import Derived.Test.YtjglgglolbkjlaaDoorNumPlain
namespace Go.Proofs.YtjglgglolbkjlaaDoor.NumW
open Go.RowKit NumP
theorem ret_float {k : FloatKind} {a b : Nat} (h : a = b) : Ending.returned (.float k a) = .returned (.float k b) := by rw [h]
set_option maxHeartbeats 400000 in
set_option maxRecDepth 100000 in
theorem one_any (x : Nat) (hx : x < 18446744073709551616) (w : World) : Calls Tryd.prog 28 #[.float .f64 x] w fun e w' => e = .returned (.float .f64 (oneN x)) ∧ w = w' := by
  by_cases h : 9218868437227405312 < mag x
  · have Hk := Lib.hid (one_nan x h)
    have k : (kind x == 9) = true := by rw [beq_iff_eq]; exact kind_nan x h
    clear h
    go_enter Tryd.func28, Tryd.ntmps28
    go_wp2_with (go_at_call 34; refine (kind_any _ hx _).mono ?_; rintro e w' ⟨rfl, rfl⟩)
    go_ret
    exact ⟨ret_float Hk.out.symm, rfl⟩
  · have Hk := Lib.hid (one_num x h)
    have k : (kind x == 9) = false := by rw [beq_eq_false_iff_ne]; have := kind_num x h; omega
    clear h
    go_enter Tryd.func28, Tryd.ntmps28
    go_wp2_with (go_at_call 34; refine (kind_any _ hx _).mono ?_; rintro e w' ⟨rfl, rfl⟩)
    go_ret
    exact ⟨ret_float Hk.out.symm, rfl⟩
end Go.Proofs.YtjglgglolbkjlaaDoor.NumW

