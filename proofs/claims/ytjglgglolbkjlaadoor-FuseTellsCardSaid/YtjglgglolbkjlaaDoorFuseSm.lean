/- The plain seat: what api.ErrForm tells of itself (the small road of Itoa; no table). -/
import Derived.Test.YtjglgglolbkjlaaDoorFuseI
namespace Go.Proofs.YtjglgglolbkjlaaDoor.FuseW
open Go.RowKit Shell
theorem small_two (W : World) : Calls Tryd.prog 47 #[.int .i64 2] W fun v W' => v = .returned (.string ⟨#[50]⟩) ∧ W = W' := by
  go_enter Tryd.func47, Tryd.ntmps47
  go_wp2
  go_ret
  exact ⟨rfl, rfl⟩
theorem format_two (W : World) : Calls Tryd.prog 37 #[.int .i64 2, .int .i64 10] W fun v W' => v = .returned (.string ⟨#[50]⟩) ∧ Below W.heap.size W W' := by
  have H := small_two
  go_enter Tryd.func37, Tryd.ntmps37
  go_wp2_with fail
  refine (H _).mono ?_
  rintro v w1 ⟨rfl, rfl⟩
  go_wp2
  go_ret
  exact ⟨rfl, Below.refl _ _⟩
theorem itoa_two (W : World) : Calls Tryd.prog 32 #[.int .i64 2] W fun v W' => v = .returned (.string ⟨#[50]⟩) ∧ Below W.heap.size W W' := by
  have H := format_two
  go_enter Tryd.func32, Tryd.ntmps32
  go_wp2_with fail
  refine (H _).mono ?_
  rintro v w1 ⟨rfl, b1⟩
  go_wp2
  go_ret
  exact ⟨rfl, b1⟩
theorem itoa2_two (W : World) : Calls Tryd.prog 25 #[.int .i64 2] W fun v W' => v = .returned (.string ⟨#[50]⟩) ∧ Below W.heap.size W W' := by
  have H := itoa_two
  go_enter Tryd.func25, Tryd.ntmps25
  go_wp2_with fail
  refine (H _).mono ?_
  rintro v w1 ⟨rfl, b1⟩
  go_wp2
  go_ret
  exact ⟨rfl, b1⟩
theorem form_tells (W : World) : Calls Tryd.prog 10 #[.int .i64 2] W fun v W' => v = .returned (.string ⟨#[101, 114, 114, 110, 111, 32, 50]⟩) ∧ Below W.heap.size W W' := by
  have H := itoa2_two
  go_enter Tryd.func10, Tryd.ntmps10
  go_wp2_with fail
  refine (H _).mono ?_
  rintro v w1 ⟨rfl, b1⟩
  go_wp2
  go_ret
  exact ⟨rfl, b1⟩
end Go.Proofs.YtjglgglolbkjlaaDoor.FuseW
