/- Walks: only, Has, Within, Count, First; the document's own Has. -/
import Derived.Test.YtigehmlfdbejaaaDoorCrewP
import Derived.Test.YtigehmlfdbejaaaDoorProg
import Derived.Test.YtigehmlfdbejaaaDoorRow1
import Derived.Deep.RegionHeld3
import Derived.Deep.RegionLaw
import Derived.Deep.DeepCutAuto
import Derived.Deep.CutBlock
import Derived.Laws.Shifts
import Derived.Lib.Hide
import Derived.IntWalk
import Derived.Laws.Unary
import Derived.Lib.Tables
import Derived.ProofKit
namespace Go.Proofs.YtigehmlfdbejaaaDoor.CrewW
open Go.RowKit Shell
theorem shl_eq (k : Nat) (h : k < 6) : (2 : Int) ^ k % 4294967296 = ((only (k : Int) : Nat) : Int) := by
  unfold only
  rw [if_pos (by omega), Int.toNat_natCast, show ((2 : Int) ^ k) = ((2 ^ k : Nat) : Int) by simp]
  have := Nat.pow_lt_pow_right (a := 2) (m := k) (n := 6) (by decide) h
  generalize 2 ^ k = z at *
  omega
set_option maxHeartbeats 1000000 in
theorem only_any (h : Int) (w : World) : Calls Tryd.prog 33 #[.int .i64 h] w fun e w' => e = .returned (.int .u32 (only h : Nat)) ∧ w' = w := by
  by_cases h0 : h < 0
  · have e : only h = 0 := by unfold only; rw [if_neg (by omega)]
    rw [e]
    clear e
    go_enter Tryd.func33, Tryd.ntmps33
    go_wp2
    go_ret
    exact ⟨rfl, rfl⟩
  · by_cases h6 : 6 ≤ h
    · have e : only h = 0 := by unfold only; rw [if_neg (by omega)]
      rw [e]
      clear e
      go_enter Tryd.func33, Tryd.ntmps33
      go_wp2
      go_ret
      exact ⟨rfl, rfl⟩
    · obtain ⟨k, rfl⟩ := Int.eq_ofNat_of_zero_le (show 0 ≤ h by omega)
      have HR := Lib.hid (shl_eq k (by omega))
      generalize only (k : Int) = c at *
      go_enter Tryd.func33, Tryd.ntmps33
      go_wp2
      go_ret
      exact ⟨congrArg (fun z => Ending.returned (.int .u32 z)) HR.out, rfl⟩
/-- How many bits are set: the table's word at numbers below 64. -/
theorem pop_at : ∀ r : Nat, r < 64 → Go.Lib.pop8 (r : Int) = ((mem r).length : Int) := by decide +kernel
theorem pop_key : ∀ x : Array UInt8, x = Go.Lib.pop8tab.data → ByteArray.mk x = Go.Lib.pop8tab := fun x h => by rw [h]
theorem pop_0 : Go.Lib.pop8 0 = 0 := by decide +kernel
set_option maxHeartbeats 1000000 in
theorem ones_any (r : Nat) (w : World) (h : r < 64) : Calls Tryd.prog 29 #[.int .u32 (r : Int)] w fun e w' => e = .returned (.int .i64 ((mem r).length : Int)) ∧ Below w.heap.size w w' := by
  have H1 := Lib.hid (show (r : Int) / 16777216 = 0 by omega)
  have HP := Lib.hid (pop_at r h)
  have HL := Lib.hid (mem_len r)
  have H0 := pop_0
  have e0 : bits .and .u32 0 255 = 0 := by decide
  have e1 : bits .and .u32 (r : Int) 255 = (r : Int) := by
    have := u32_and_nat r 255 (by omega) (by decide)
    rw [show r &&& 255 = r % 256 from Nat.and_two_pow_sub_one_eq_mod r 8, Nat.mod_eq_of_lt (by omega)] at this
    exact this
  have s1 : (r : Int) / 16777216 = 0 := by omega
  have s2 : (r : Int) / 65536 = 0 := by omega
  have s3 : (r : Int) / 256 = 0 := by omega
  have HI := fun W => Go.Lib.run_index_pop8tab (P := Tryd.prog) W 9 .u32 (r : Int) Tryd.underlying9 (by omega) (by omega)
  go_enter Tryd.func29, Tryd.ntmps29
  rw [pop_key]
  rotate_left
  · rfl
  go_wp2
  go_region
  rw [HP.out, show (((mem r).length : Nat) : Int) % 256 = ((mem r).length : Int) by have := HL.out; omega]
  go_wp2
  go_ret
  exact ⟨rfl, (Below.refl _ _).drew⟩
set_option maxHeartbeats 1000000 in
theorem count_any (c : Nat) (w : World) (h : c < 4294967296) : Calls Tryd.prog 22 #[.int .u32 (c : Int)] w fun e w' => e = .returned (.int .i64 ((mem c).length : Int)) ∧ Below w.heap.size w w' := by
  have HB := Lib.hid (u32_and_nat c 63 h (by decide))
  have HO := Lib.hid (ones_any (c % 64) w (Nat.mod_lt _ (by decide)))
  have e := and63 c
  rw [e] at HB
  rw [mem_mod] at HO
  clear e
  generalize c % 64 = r at *
  go_enter Tryd.func22, Tryd.ntmps22
  go_wp2_with (first | rw [show bits .and .u32 (c : Int) 63 = (r : Int) from HB.out])
  refine HO.out.mono ?_
  rintro e w9 ⟨rfl, hb⟩
  have B := Lib.hid hb
  clear hb
  go_wp2
  go_ret
  exact ⟨rfl, B.out⟩
/-- The library's table, as its initialiser lays it. -/
def Tz (w : World) : Prop := ∀ j, j < 32 → w.cell? ⟨0, j, none⟩ = some (.int .u8 (Go.Lib.deBruijn32tab.getD j 0))
theorem Tz.below {w w1 : World} (h : Tz w) (b : Below w.heap.size w w1) : Tz w1 := fun j hj => (b.cell (Lib.lt_of_cell (h j hj))).trans (h j hj)
theorem tz_key (x a : Nat) (hx : x < 4294967296) (hx0 : x ≠ 0) (hlow : x &&& (4294967296 - x) = a) :
    bits BinOp.and IntKind.u32 (x : Int) (-(x : Int) % 4294967296) * 125613361 % 4294967296 / 134217728 = ((a * 125613361 % 4294967296 / 134217728 : Nat) : Int) := by
  rw [show -(x : Int) % 4294967296 = ((4294967296 - x : Nat) : Int) by omega, u32_and_nat x _ hx (by omega), hlow]
  omega
set_option maxHeartbeats 1000000 in
theorem tz_core (x k idx : Nat) (w : World) (hx0 : ((x : Int) == 0) = false)
    (key : bits BinOp.and IntKind.u32 (x : Int) (-(x : Int) % 4294967296) * 125613361 % 4294967296 / 134217728 = (idx : Int))
    (hi : idx < 32) (hk : k < 32) (hcell : w.cell? ⟨0, idx, none⟩ = some (.int .u8 k)) :
    Calls Tryd.prog 32 #[.int .u32 (x : Int)] w fun e w' => e = .returned (.int .i64 (k : Int)) ∧ w' = w := by
  go_enter Tryd.func32, Tryd.ntmps32
  go_wp2_with (simp only [key])
  go_ret
  exact ⟨rfl, rfl⟩
theorem tz_any (x : Nat) (w : World) (hx : x < 4294967296) (hx0 : x ≠ 0) (hT : Tz w) : Calls Tryd.prog 32 #[.int .u32 (x : Int)] w fun e w' => e = .returned (.int .i64 (Go.Lib.ctz 32 x : Nat)) ∧ w' = w := by
  obtain ⟨hlow, hk⟩ := Go.Lib.lowest_bit 32 x hx0 hx
  obtain ⟨hi, htab⟩ := Go.Lib.deBruijn32_at _ hk
  have hcell := hT _ hi
  rw [htab] at hcell
  exact tz_core x _ _ w (by simp; omega) (tz_key x _ hx hx0 hlow) hi hk hcell
set_option maxHeartbeats 1000000 in
theorem first_any (c : Nat) (w : World) (h : c < 4294967296) (hT : Tz w) : Calls Tryd.prog 28 #[.int .u32 (c : Int)] w fun e w' => e = .returned (.int .i64 (fst c)) ∧ w' = w := by
  have HB := Lib.hid (u32_and_nat c 63 h (by decide))
  rw [and63 c] at HB
  by_cases h0 : c % 64 = 0
  · rw [fst_none h0]
    rw [h0] at HB
    clear h0
    go_enter Tryd.func28, Tryd.ntmps28
    go_wp2_with (first | rw [show bits .and .u32 (c : Int) 63 = ((0 : Nat) : Int) from HB.out])
    go_ret
    exact ⟨rfl, rfl⟩
  · have HO := Lib.hid (tz_any c w h (fun e => h0 (by rw [e])) hT)
    rw [fst_some h0]
    have hx : (((c % 64 : Nat) : Int) == 0) = false := by rw [beq_eq_false_iff_ne]; omega
    generalize c % 64 = r at *
    go_enter Tryd.func28, Tryd.ntmps28
    go_wp2_with (first | rw [show bits .and .u32 (c : Int) 63 = (r : Int) from HB.out])
    refine HO.out.mono ?_
    rintro e w9 ⟨rfl, hw⟩
    obtain rfl := hw.symm
    go_wp2
    go_ret
    exact ⟨rfl, rfl⟩
theorem has_half (c k : Nat) (h : k < 6) : has c (k : Int) = (((c / 2 ^ k : Nat) : Int) % 2 == 1) := by
  rw [has_div c k h, Bool.eq_iff_iff, decide_eq_true_eq, beq_iff_eq]
  generalize c / 2 ^ k = z
  omega
theorem div_succ (c i : Nat) (h : c < 4294967296) : ((c / 2 ^ i : Nat) : Int) / 2 % 4294967296 = ((c / 2 ^ (i + 1) : Nat) : Int) := by
  have := Nat.div_le_self c (2 ^ i)
  rw [Nat.pow_succ, ← Nat.div_div_eq_div_mul]
  generalize c / 2 ^ i = z at *
  omega
set_option maxHeartbeats 1000000 in
theorem refHas_any (c : Nat) (h : Int) (w : World) (hc : c < 4294967296) : Calls Tryd.prog 30 #[.int .u32 (c : Int), .int .i64 h] w fun e w' => e = .returned (.bool (has c h)) ∧ w' = w := by
  by_cases h0 : h < 0
  · rw [has_big c h (by omega)]
    go_enter Tryd.func30, Tryd.ntmps30
    go_wp2
    go_ret
    exact ⟨rfl, rfl⟩
  · by_cases h6 : 5 < h
    · rw [has_big c h (by omega)]
      go_enter Tryd.func30, Tryd.ntmps30
      go_wp2
      go_ret
      exact ⟨rfl, rfl⟩
    · obtain ⟨k, rfl⟩ := Int.eq_ofNat_of_zero_le (show 0 ≤ h by omega)
      have HR := Lib.hid (has_half c k (by omega))
      generalize has c (k : Int) = b at *
      go_enter Tryd.func30, Tryd.ntmps30
      go_wp2
      go_loopw [0, 5] (fun cv iv wr => ∃ (i : Nat), i ≤ k ∧ iv = .int .i64 i ∧ cv = .int .u32 ((c / 2 ^ i : Nat) : Int) ∧ wr = w) (fun _ iv _ => k - (intOf iv).toNat)
      case atStart => exact ⟨0, Nat.zero_le _, rfl, by rw [Nat.pow_zero, Nat.div_one], rfl⟩
      case round =>
        obtain ⟨i, hi, rfl, rfl, rfl⟩ := hrel
        by_cases hlt : i < k
        · have HD := Lib.hid (div_succ c i hc)
          generalize c / 2 ^ i = z at *
          go_wp2
          go_roundw
          case rel => exact ⟨i + 1, by omega, by go_num, by rw [← HD.out], trivial⟩
          case measure => simp [intOf]; omega
        · obtain rfl : i = k := by omega
          generalize c / 2 ^ i = z at *
          go_wp2
          go_ret
          exact ⟨by rw [HR.out]; rfl, rfl⟩
end Go.Proofs.YtigehmlfdbejaaaDoor.CrewW

