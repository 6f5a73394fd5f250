/- Walks: between, Time, rightTimes, timed, wireTime. -/
import Derived.Test.YtmagjekmlnpfpaaGreatConfPJa
import Derived.Test.YtmagjekmlnpfpaaGreatProg
import Derived.Test.YtmagjekmlnpfpaaGreatRow1
import Derived.Deep.RegionHeld3
import Derived.Deep.RegionLaw
import Derived.Deep.DeepCutAuto
import Derived.Deep.CutBlock
import Derived.Laws.Shifts
import Derived.Lib.Hide
import Derived.IntWalk
import Derived.Laws.Unary
import Derived.ProofKit
namespace Go.Proofs.YtmagjekmlnpfpaaGreat.ConfW
open Go.RowKit Shell
theorem al {w w1 : World} (h : Below w.heap.size w w1) (o : Obj) : Below w.heap.size w (w1.alloc o) := h.alloc h.size o
theorem between_int (n l h : Int) (w : World) : Calls Tryz.prog 69 #[.int .i64 n, .int .i64 l, .int .i64 h] w fun e w' => e = .returned (.bool (btw n l h)) ∧ w' = w := by
  by_cases h1 : l ≤ n
  · by_cases h2 : n ≤ h
    · have e : btw n l h = true := btw_iff.2 ⟨h1, h2⟩
      rw [e]
      clear e
      go_enter Tryz.func69, Tryz.ntmps69
      go_wp2
      go_ret
      exact ⟨rfl, rfl⟩
    · have e : btw n l h = false := by rw [← Bool.not_eq_true, btw_iff]; omega
      rw [e]
      clear e
      go_enter Tryz.func69, Tryz.ntmps69
      go_wp2
      go_ret
      exact ⟨rfl, rfl⟩
  · have e : btw n l h = false := by rw [← Bool.not_eq_true, btw_iff]; omega
    rw [e]
    clear e
    go_enter Tryz.func69, Tryz.ntmps69
    go_wp2
    go_ret
    exact ⟨rfl, rfl⟩
theorem between_i64 (n l h : Int) (w : World) : Calls Tryz.prog 70 #[.int .i64 n, .int .i64 l, .int .i64 h] w fun e w' => e = .returned (.bool (btw n l h)) ∧ w' = w := by
  by_cases h1 : l ≤ n
  · by_cases h2 : n ≤ h
    · have e : btw n l h = true := btw_iff.2 ⟨h1, h2⟩
      rw [e]
      clear e
      go_enter Tryz.func70, Tryz.ntmps70
      go_wp2
      go_ret
      exact ⟨rfl, rfl⟩
    · have e : btw n l h = false := by rw [← Bool.not_eq_true, btw_iff]; omega
      rw [e]
      clear e
      go_enter Tryz.func70, Tryz.ntmps70
      go_wp2
      go_ret
      exact ⟨rfl, rfl⟩
  · have e : btw n l h = false := by rw [← Bool.not_eq_true, btw_iff]; omega
    rw [e]
    clear e
    go_enter Tryz.func70, Tryz.ntmps70
    go_wp2
    go_ret
    exact ⟨rfl, rfl⟩
theorem time_any (n : Int) (w : World) : Calls Tryz.prog 192 #[.int .i64 n] w fun e w' => e = .returned (.int .i64 (tim n)) ∧ w' = w := by
  unfold tim
  by_cases h1 : n < 64
  · rw [if_pos h1]
    go_enter Tryz.func192, Tryz.ntmps192
    go_wp2
    go_ret
    exact ⟨rfl, rfl⟩
  · rw [if_neg h1]
    by_cases h2 : n > 1518
    · rw [if_pos h2]
      go_enter Tryz.func192, Tryz.ntmps192
      go_wp2
      go_ret
      exact ⟨rfl, rfl⟩
    · rw [if_neg h2]
      have e : 8 * n = n * 8 := Int.mul_comm _ _
      go_enter Tryz.func192, Tryz.ntmps192
      go_wp2
      go_ret
      exact ⟨by rw [← e]; rfl, rfl⟩
theorem refTime_any (n : Int) (w : World) : Calls Tryz.prog 105 #[.int .i64 n] w fun e w' => e = .returned (.int .i64 (tim n)) ∧ w' = w := by
  unfold tim
  by_cases h1 : n < 64
  · rw [if_pos h1]
    go_enter Tryz.func105, Tryz.ntmps105
    go_wp2
    go_ret
    exact ⟨rfl, rfl⟩
  · rw [if_neg h1]
    by_cases h2 : n > 1518
    · rw [if_pos h2]
      go_enter Tryz.func105, Tryz.ntmps105
      go_wp2
      go_ret
      exact ⟨rfl, rfl⟩
    · rw [if_neg h2]
      go_enter Tryz.func105, Tryz.ntmps105
      go_wp2
      go_ret
      exact ⟨rfl, rfl⟩
set_option maxHeartbeats 1000000 in
theorem rightTimes_any (c : Cfg) (D E L : Option Addr) (nd cd ne ce nl cl : Nat) (w : World) : Calls Tryz.prog 71 #[.agg #[.int .i64 c.hosts, .int .i64 c.cycle, .int .i64 c.delay, .int .i64 c.window, .int .i64 c.precision, .slice D nd cd, .slice E ne ce, .slice L nl cl, .int .i64 c.queue]] w fun e w' => e = .returned (.bool (spansT c)) ∧ Below w.heap.size w w' := by
  have H1 := fun W => between_i64 c.delay 0 1048576 W
  have H2 := fun W => between_i64 c.window 0 1048576 W
  have H3 := fun W => between_i64 c.precision 0 1048576 W
  unfold spansT
  generalize btw c.delay 0 1048576 = b1 at *
  generalize btw c.window 0 1048576 = b2 at *
  generalize btw c.precision 0 1048576 = b3 at *
  have B := Lib.hid (al (Below.refl w.heap.size w) (Obj.cells #[.int .i64 c.hosts, .int .i64 c.cycle, .int .i64 c.delay, .int .i64 c.window, .int .i64 c.precision, .slice D nd cd, .slice E ne ce, .slice L nl cl, .int .i64 c.queue] 26))
  go_enter Tryz.func71, Tryz.ntmps71
  go_wp2_with fail
  refine (H1 _).mono ?_
  rintro e w9 ⟨rfl, hw⟩
  obtain rfl := hw.symm
  cases b1
  · go_wp2
    go_ret
    exact ⟨rfl, B.out⟩
  · go_wp2_with fail
    refine (H2 _).mono ?_
    rintro e w9 ⟨rfl, hw⟩
    obtain rfl := hw.symm
    cases b2
    · go_wp2
      go_ret
      exact ⟨rfl, B.out⟩
    · go_wp2_with fail
      refine (H3 _).mono ?_
      rintro e w9 ⟨rfl, hw⟩
      obtain rfl := hw.symm
      go_wp2
      go_ret
      exact ⟨rfl, B.out⟩
end Go.Proofs.YtmagjekmlnpfpaaGreat.ConfW


