/- Walks: only, Has, Within, Count, First; the document's own Has. -/
import Derived.Test.YtdaoemjkefpmcaaCrewP
import Derived.Test.YtdaoemjkefpmcaaProg
import Derived.Test.YtdaoemjkefpmcaaRow1
import Derived.Deep.RegionHeld3
import Derived.Deep.RegionLaw
import Derived.Deep.DeepCutAuto
import Derived.Deep.CutBlock
import Derived.Laws.Shifts
import Derived.Lib.Hide
import Derived.IntWalk
import Derived.Laws.Unary
import Derived.Lib.Tables
import Derived.ProofKit
namespace Go.Proofs.Ytdaoemjkefpmcaa.CrewW
open Go.RowKit Shell
theorem shl_eq (k : Nat) (h : k < 6) : (2 : Int) ^ k % 4294967296 = ((only (k : Int) : Nat) : Int) := by
  unfold only
  rw [if_pos (by omega), Int.toNat_natCast, show ((2 : Int) ^ k) = ((2 ^ k : Nat) : Int) by simp]
  have := Nat.pow_lt_pow_right (a := 2) (m := k) (n := 6) (by decide) h
  generalize 2 ^ k = z at *
  omega
set_option maxHeartbeats 1000000 in
theorem only_any (h : Int) (w : World) : Calls Try.prog 70 #[.int .i64 h] w fun e w' => e = .returned (.int .u32 (only h : Nat)) ∧ w' = w := by
  by_cases h0 : h < 0
  · have e : only h = 0 := by unfold only; rw [if_neg (by omega)]
    rw [e]
    clear e
    go_enter Try.func70, Try.ntmps70
    go_wp2
    go_ret
    exact ⟨rfl, rfl⟩
  · by_cases h6 : 6 ≤ h
    · have e : only h = 0 := by unfold only; rw [if_neg (by omega)]
      rw [e]
      clear e
      go_enter Try.func70, Try.ntmps70
      go_wp2
      go_ret
      exact ⟨rfl, rfl⟩
    · obtain ⟨k, rfl⟩ := Int.eq_ofNat_of_zero_le (show 0 ≤ h by omega)
      have HR := Lib.hid (shl_eq k (by omega))
      generalize only (k : Int) = c at *
      go_enter Try.func70, Try.ntmps70
      go_wp2
      go_ret
      exact ⟨congrArg (fun z => Ending.returned (.int .u32 z)) HR.out, rfl⟩
set_option maxHeartbeats 1000000 in
theorem has_any (c : Nat) (h : Int) (w : World) (hc : c < 4294967296) : Calls Try.prog 57 #[.int .u32 (c : Int), .int .i64 h] w fun e w' => e = .returned (.bool (has c h)) ∧ w' = w := by
  have HB := Lib.hid (u32_and_nat c (only h) hc (by have := only_lt h; omega))
  have HH := Lib.hid (has_only c h)
  have HO := Lib.hid (only_any h w)
  generalize only h = o at *
  go_enter Try.func57, Try.ntmps57
  go_wp2_with fail
  refine HO.out.mono ?_
  rintro e w9 ⟨rfl, hw⟩
  obtain rfl := hw.symm
  go_wp2_with fail
  rw [HB.out]
  generalize has c h = b at *
  generalize c &&& o = x at *
  cases b
  · have hx : x = 0 := by
      rcases Nat.eq_zero_or_pos x with h | h
      · exact h
      · exact absurd (HH.out.1 (by omega)) (by decide)
    subst hx
    go_wp2
    go_ret
    exact ⟨rfl, rfl⟩
  · have hx : ((x : Int) != 0) = true := by have := HH.out.2 rfl; rw [bne_iff_ne]; omega
    go_wp2
    go_ret
    exact ⟨rfl, rfl⟩
theorem has_half (c k : Nat) (h : k < 6) : has c (k : Int) = (((c / 2 ^ k : Nat) : Int) % 2 == 1) := by
  rw [has_div c k h, Bool.eq_iff_iff, decide_eq_true_eq, beq_iff_eq]
  generalize c / 2 ^ k = z
  omega
theorem div_succ (c i : Nat) (h : c < 4294967296) : ((c / 2 ^ i : Nat) : Int) / 2 % 4294967296 = ((c / 2 ^ (i + 1) : Nat) : Int) := by
  have := Nat.div_le_self c (2 ^ i)
  rw [Nat.pow_succ, ← Nat.div_div_eq_div_mul]
  generalize c / 2 ^ i = z at *
  omega
set_option maxHeartbeats 1000000 in
theorem refHas_any (c : Nat) (h : Int) (w : World) (hc : c < 4294967296) : Calls Try.prog 58 #[.int .u32 (c : Int), .int .i64 h] w fun e w' => e = .returned (.bool (has c h)) ∧ w' = w := by
  by_cases h0 : h < 0
  · rw [has_big c h (by omega)]
    go_enter Try.func58, Try.ntmps58
    go_wp2
    go_ret
    exact ⟨rfl, rfl⟩
  · by_cases h6 : 5 < h
    · rw [has_big c h (by omega)]
      go_enter Try.func58, Try.ntmps58
      go_wp2
      go_ret
      exact ⟨rfl, rfl⟩
    · obtain ⟨k, rfl⟩ := Int.eq_ofNat_of_zero_le (show 0 ≤ h by omega)
      have HR := Lib.hid (has_half c k (by omega))
      generalize has c (k : Int) = b at *
      go_enter Try.func58, Try.ntmps58
      go_wp2
      go_loopw [0, 5] (fun cv iv wr => ∃ (i : Nat), i ≤ k ∧ iv = .int .i64 i ∧ cv = .int .u32 ((c / 2 ^ i : Nat) : Int) ∧ wr = w) (fun _ iv _ => k - (intOf iv).toNat)
      case atStart => exact ⟨0, Nat.zero_le _, rfl, by rw [Nat.pow_zero, Nat.div_one], rfl⟩
      case round =>
        obtain ⟨i, hi, rfl, rfl, rfl⟩ := hrel
        by_cases hlt : i < k
        · have HD := Lib.hid (div_succ c i hc)
          generalize c / 2 ^ i = z at *
          go_wp2
          go_roundw
          case rel => exact ⟨i + 1, by omega, by go_num, by rw [← HD.out], trivial⟩
          case measure => simp [intOf]; omega
        · obtain rfl : i = k := by omega
          generalize c / 2 ^ i = z at *
          go_wp2
          go_ret
          exact ⟨by rw [HR.out]; rfl, rfl⟩
end Go.Proofs.Ytdaoemjkefpmcaa.CrewW

