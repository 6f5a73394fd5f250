/- Walks: only, Has, Within, Count, First; the document's own Has. -/
import Derived.Test.YtpdcdnklmoaokaaCrewP
import Derived.Test.YtpdcdnklmoaokaaProg
import Derived.Test.YtpdcdnklmoaokaaRow1
import Derived.Deep.RegionHeld3
import Derived.Deep.RegionLaw
import Derived.Deep.DeepCutAuto
import Derived.Deep.CutBlock
import Derived.Laws.Shifts
import Derived.Lib.Hide
import Derived.IntWalk
import Derived.Laws.Unary
import Derived.Lib.Tables
import Derived.ProofKit
namespace Go.Proofs.Ytpdcdnklmoaokaa.CrewW
open Go.RowKit Shell
theorem shl_eq (k : Nat) (h : k < 6) : (2 : Int) ^ k % 4294967296 = ((only (k : Int) : Nat) : Int) := by
  unfold only
  rw [if_pos (by omega), Int.toNat_natCast, show ((2 : Int) ^ k) = ((2 ^ k : Nat) : Int) by simp]
  have := Nat.pow_lt_pow_right (a := 2) (m := k) (n := 6) (by decide) h
  generalize 2 ^ k = z at *
  omega
set_option maxHeartbeats 1000000 in
theorem only_any (h : Int) (w : World) : Calls Try.prog 61 #[.int .i64 h] w fun e w' => e = .returned (.int .u32 (only h : Nat)) ∧ w' = w := by
  by_cases h0 : h < 0
  · have e : only h = 0 := by unfold only; rw [if_neg (by omega)]
    rw [e]
    clear e
    go_enter Try.func61, Try.ntmps61
    go_wp2
    go_ret
    exact ⟨rfl, rfl⟩
  · by_cases h6 : 6 ≤ h
    · have e : only h = 0 := by unfold only; rw [if_neg (by omega)]
      rw [e]
      clear e
      go_enter Try.func61, Try.ntmps61
      go_wp2
      go_ret
      exact ⟨rfl, rfl⟩
    · obtain ⟨k, rfl⟩ := Int.eq_ofNat_of_zero_le (show 0 ≤ h by omega)
      have HR := Lib.hid (shl_eq k (by omega))
      generalize only (k : Int) = c at *
      go_enter Try.func61, Try.ntmps61
      go_wp2
      go_ret
      exact ⟨congrArg (fun z => Ending.returned (.int .u32 z)) HR.out, rfl⟩
set_option maxHeartbeats 1000000 in
theorem has_any (c : Nat) (h : Int) (w : World) (hc : c < 4294967296) : Calls Try.prog 51 #[.int .u32 (c : Int), .int .i64 h] w fun e w' => e = .returned (.bool (has c h)) ∧ w' = w := by
  have HB := Lib.hid (u32_and_nat c (only h) hc (by have := only_lt h; omega))
  have HH := Lib.hid (has_only c h)
  have HO := Lib.hid (only_any h w)
  generalize only h = o at *
  go_enter Try.func51, Try.ntmps51
  go_wp2_with fail
  refine HO.out.mono ?_
  rintro e w9 ⟨rfl, hw⟩
  obtain rfl := hw.symm
  go_wp2_with fail
  rw [HB.out]
  generalize has c h = b at *
  generalize c &&& o = x at *
  cases b
  · have hx : x = 0 := by
      rcases Nat.eq_zero_or_pos x with h | h
      · exact h
      · exact absurd (HH.out.1 (by omega)) (by decide)
    subst hx
    go_wp2
    go_ret
    exact ⟨rfl, rfl⟩
  · have hx : ((x : Int) != 0) = true := by have := HH.out.2 rfl; rw [bne_iff_ne]; omega
    go_wp2
    go_ret
    exact ⟨rfl, rfl⟩
/-- How many bits are set: the table's word at numbers below 64. -/
theorem pop_at : ∀ r : Nat, r < 64 → Go.Lib.pop8 (r : Int) = ((mem r).length : Int) := by decide +kernel
theorem pop_key : ∀ x : Array UInt8, x = Go.Lib.pop8tab.data → ByteArray.mk x = Go.Lib.pop8tab := fun x h => by rw [h]
theorem pop_0 : Go.Lib.pop8 0 = 0 := by decide +kernel
set_option maxHeartbeats 1000000 in
theorem ones_any (r : Nat) (w : World) (h : r < 64) : Calls Try.prog 35 #[.int .u32 (r : Int)] w fun e w' => e = .returned (.int .i64 ((mem r).length : Int)) ∧ Below w.heap.size w w' := by
  have H1 := Lib.hid (show (r : Int) / 16777216 = 0 by omega)
  have HP := Lib.hid (pop_at r h)
  have HL := Lib.hid (mem_len r)
  have H0 := pop_0
  have e0 : bits .and .u32 0 255 = 0 := by decide
  have e1 : bits .and .u32 (r : Int) 255 = (r : Int) := by
    have := u32_and_nat r 255 (by omega) (by decide)
    rw [show r &&& 255 = r % 256 from Nat.and_two_pow_sub_one_eq_mod r 8, Nat.mod_eq_of_lt (by omega)] at this
    exact this
  have s1 : (r : Int) / 16777216 = 0 := by omega
  have s2 : (r : Int) / 65536 = 0 := by omega
  have s3 : (r : Int) / 256 = 0 := by omega
  have HI := fun W => Go.Lib.run_index_pop8tab (P := Try.prog) W 9 .u32 (r : Int) Try.underlying9 (by omega) (by omega)
  go_enter Try.func35, Try.ntmps35
  rw [pop_key]
  rotate_left
  · rfl
  go_wp2
  go_region
  rw [HP.out, show (((mem r).length : Nat) : Int) % 256 = ((mem r).length : Int) by have := HL.out; omega]
  go_wp2
  go_ret
  exact ⟨rfl, (Below.refl _ _).drew⟩
set_option maxHeartbeats 1000000 in
theorem count_any (c : Nat) (w : World) (h : c < 4294967296) : Calls Try.prog 21 #[.int .u32 (c : Int)] w fun e w' => e = .returned (.int .i64 ((mem c).length : Int)) ∧ Below w.heap.size w w' := by
  have HB := Lib.hid (u32_and_nat c 63 h (by decide))
  have HO := Lib.hid (ones_any (c % 64) w (Nat.mod_lt _ (by decide)))
  have e := and63 c
  rw [e] at HB
  rw [mem_mod] at HO
  clear e
  generalize c % 64 = r at *
  go_enter Try.func21, Try.ntmps21
  go_wp2_with (first | rw [show bits .and .u32 (c : Int) 63 = (r : Int) from HB.out])
  refine HO.out.mono ?_
  rintro e w9 ⟨rfl, hb⟩
  have B := Lib.hid hb
  clear hb
  go_wp2
  go_ret
  exact ⟨rfl, B.out⟩
end Go.Proofs.Ytpdcdnklmoaokaa.CrewW

