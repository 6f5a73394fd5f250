/- The plain seat: what api.ErrForm tells of itself (the small road of Itoa; no table). -/
import Derived.Test.YtjglgglolbkjlaaFuseI
namespace Go.Proofs.Ytjglgglolbkjlaa.FuseW
open Go.RowKit Shell
theorem small_two (W : World) : Calls Try.prog 67 #[.int .i64 2] W fun v W' => v = .returned (.string ⟨#[50]⟩) ∧ W = W' := by
  go_enter Try.func67, Try.ntmps67
  go_wp2
  go_ret
  exact ⟨rfl, rfl⟩
theorem format_two (W : World) : Calls Try.prog 66 #[.int .i64 2, .int .i64 10] W fun v W' => v = .returned (.string ⟨#[50]⟩) ∧ Below W.heap.size W W' := by
  have H := small_two
  go_enter Try.func66, Try.ntmps66
  go_wp2_with fail
  refine (H _).mono ?_
  rintro v w1 ⟨rfl, rfl⟩
  go_wp2
  go_ret
  exact ⟨rfl, Below.refl _ _⟩
theorem itoa_two (W : World) : Calls Try.prog 65 #[.int .i64 2] W fun v W' => v = .returned (.string ⟨#[50]⟩) ∧ Below W.heap.size W W' := by
  have H := format_two
  go_enter Try.func65, Try.ntmps65
  go_wp2_with fail
  refine (H _).mono ?_
  rintro v w1 ⟨rfl, b1⟩
  go_wp2
  go_ret
  exact ⟨rfl, b1⟩
theorem itoa2_two (W : World) : Calls Try.prog 64 #[.int .i64 2] W fun v W' => v = .returned (.string ⟨#[50]⟩) ∧ Below W.heap.size W W' := by
  have H := itoa_two
  go_enter Try.func64, Try.ntmps64
  go_wp2_with fail
  refine (H _).mono ?_
  rintro v w1 ⟨rfl, b1⟩
  go_wp2
  go_ret
  exact ⟨rfl, b1⟩
theorem form_tells (W : World) : Calls Try.prog 63 #[.int .i64 2] W fun v W' => v = .returned (.string ⟨#[101, 114, 114, 110, 111, 32, 50]⟩) ∧ Below W.heap.size W W' := by
  have H := itoa2_two
  go_enter Try.func63, Try.ntmps63
  go_wp2_with fail
  refine (H _).mono ?_
  rintro v w1 ⟨rfl, b1⟩
  go_wp2
  go_ret
  exact ⟨rfl, b1⟩
end Go.Proofs.Ytjglgglolbkjlaa.FuseW
