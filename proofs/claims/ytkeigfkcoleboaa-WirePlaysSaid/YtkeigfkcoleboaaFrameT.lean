/- Time; the chapter's examples. -/
import Derived.Test.YtkeigfkcoleboaaFrameK
namespace Go.Proofs.Ytkeigfkcoleboaa.FrameW
open Go.RowKit
def tim (n : Int) : Int := if n < 64 then 512 else if n > 1518 then 12144 else n * 8
theorem time_any (n : Int) (w : World) : Calls Try.prog 16 #[.int .i64 n] w fun e w' => e = .returned (.int .i64 (tim n)) ∧ w' = w := by
  unfold tim
  by_cases h1 : n < 64
  · rw [if_pos h1]
    go_enter Try.func16, Try.ntmps16
    go_wp2
    go_ret
    exact ⟨rfl, rfl⟩
  · rw [if_neg h1]
    by_cases h2 : n > 1518
    · rw [if_pos h2]
      go_enter Try.func16, Try.ntmps16
      go_wp2
      go_ret
      exact ⟨rfl, rfl⟩
    · rw [if_neg h2]
      have e : 8 * n = n * 8 := Int.mul_comm _ _
      go_enter Try.func16, Try.ntmps16
      go_wp2
      go_ret
      exact ⟨by rw [← e]; rfl, rfl⟩
theorem refTime_any (n : Int) (w : World) : Calls Try.prog 22 #[.int .i64 n] w fun e w' => e = .returned (.int .i64 (tim n)) ∧ w' = w := by
  unfold tim
  by_cases h1 : n < 64
  · rw [if_pos h1]
    go_enter Try.func22, Try.ntmps22
    go_wp2
    go_ret
    exact ⟨rfl, rfl⟩
  · rw [if_neg h1]
    by_cases h2 : n > 1518
    · rw [if_pos h2]
      go_enter Try.func22, Try.ntmps22
      go_wp2
      go_ret
      exact ⟨rfl, rfl⟩
    · rw [if_neg h2]
      go_enter Try.func22, Try.ntmps22
      go_wp2
      go_ret
      exact ⟨rfl, rfl⟩
end Go.Proofs.Ytkeigfkcoleboaa.FrameW

