/- The document's own Sum. -/
import Derived.Test.YtnlimdlmhfnkiaaFrameAJa
namespace Go.Proofs.Ytnlimdlmhfnkiaa.FrameW
open Go.RowKit
theorem st_half (r : Nat) (h : r < 4294967296) : (r % 2 = 1 → bits .xor .u32 ((r : Int) / 2 % 4294967296) 3988292384 = ((st r : Nat) : Int)) ∧ (r % 2 ≠ 1 → (r : Int) / 2 % 4294967296 = ((st r : Nat) : Int)) := by
  constructor
  · intro h1
    have := u32_xor_nat (r / 2) 3988292384 (by omega) (by decide)
    rw [show (r : Int) / 2 % 4294967296 = ((r / 2 : Nat) : Int) by omega]
    refine this.trans ?_
    unfold st
    rw [h1]
  · intro h1
    unfold st
    rw [show r % 2 = 0 by omega, Nat.zero_mul, Nat.xor_zero]
    omega
set_option maxHeartbeats 8000000 in
theorem refSum_any (A : Option Addr) (c : Nat) (xs : List Int) (w : World) (h : BL w A xs) (hl : xs.length ≤ 9223372036854775807) :
    Calls Try.prog 36 #[.slice A xs.length c] w fun e w' => e = .returned (.int .u32 (crc xs)) ∧ w' = w := by
  have H := Lib.hid h
  have HL := Lib.hid hl
  clear h hl
  go_enter Try.func36, Try.ntmps36
  go_wp2
  go_loopw [3, 4] (fun rv iv wr => ∃ (k : Nat), k ≤ xs.length ∧ iv = .int .i64 k ∧ rv = .int .u32 ((go 4294967295 (xs.take k) : Nat) : Int) ∧ wr = w) (fun _ iv _ => xs.length - (intOf iv).toNat)
  case atStart => exact ⟨0, Nat.zero_le _, rfl, rfl, rfl⟩
  case round =>
    obtain ⟨k, hk, rfl, rfl, rfl⟩ := hrel
    have hll := HL.out
    by_cases hlt : k < xs.length
    · obtain ⟨x, hx⟩ : ∃ x, xs[k]? = some x := ⟨_, List.getElem?_eq_getElem hlt⟩
      obtain ⟨ad, rfl, hc, q0, q1⟩ := H.out k x hx
      have gl := go_lt (H.out.by.take k) (r := 4294967295) (by decide)
      have HT := Lib.hid (go_take hx 4294967295)
      have HX := Lib.hid (byte_eq _ x gl q0 q1)
      have hxl := Lib.hid (xor_lt (r := go 4294967295 (xs.take k)) (b := x) gl q1)
      generalize go 4294967295 (xs.take k) = r at *
      clear hx q0 q1 gl
      go_wp2
      rw [HX.out]
      obtain ⟨w0, hw0⟩ : ∃ w0, w0 = wr := ⟨_, rfl⟩
      subst hw0
      go_loopw [3, 5] (fun rv iv wr => ∃ (j : Nat), j ≤ 8 ∧ iv = .int .i64 j ∧ rv = .int .u32 ((rep j (r ^^^ x.toNat) : Nat) : Int) ∧ wr = w0) (fun _ iv _ => 8 - (intOf iv).toNat)
      case atStart => exact ⟨0, Nat.zero_le _, rfl, rfl, rfl⟩
      case round =>
        obtain ⟨j, hj, rfl, rfl, rfl⟩ := hrel
        by_cases hlt2 : (j : Int) < 8
        · obtain ⟨R, hR⟩ : ∃ R, R = rep j (r ^^^ x.toNat) := ⟨_, rfl⟩
          have hS := st_half _ (rep_lt hxl.out j)
          have HR := Lib.hid (show rep (j + 1) (r ^^^ x.toNat) = st R by rw [hR]; rfl)
          rw [← hR] at hS ⊢
          clear hR
          generalize r ^^^ x.toNat = y at *
          by_cases hodd : (R : Int) % 2 = 1
          · have HS := Lib.hid (hS.1 (by omega))
            clear hS
            go_wp2
            go_roundw
            case rel => exact ⟨j + 1, by omega, by go_num, by rw [HR.out, ← HS.out], trivial⟩
            case measure => simp [intOf]; omega
          · have HS := Lib.hid (hS.2 (by omega))
            have hob : ((R : Int) % 2 == 1) = false := by simp [hodd]
            clear hS
            go_wp2
            go_roundw
            case rel => exact ⟨j + 1, by omega, by go_num, by rw [HR.out, ← HS.out], trivial⟩
            case measure => simp [intOf]; omega
        · have HJ := Lib.hid (show rep j (r ^^^ x.toNat) = go 4294967295 (xs.take (k + 1)) by rw [show j = 8 by omega, HT.out]; rfl)
          generalize rep j (r ^^^ x.toNat) = R at *
          clear hj
          go_wp2
          refine ⟨?_, by simp [intOf]; omega⟩
          exact ⟨k + 1, by omega, by omega, by rw [HJ.out]⟩
    · obtain rfl : k = xs.length := by omega
      rw [List.take_length]
      have gl := go_lt H.out.by (r := 4294967295) (by decide)
      have e : (4294967295 - go 4294967295 xs : Nat) = crc xs := rfl
      have HE := Lib.hid (flip_eq _ gl)
      have HC := Lib.hid e
      clear e gl
      generalize go 4294967295 xs = r at *
      generalize crc xs = s at *
      go_wp2
      go_ret
      exact ⟨by rw [← HC.out, ← HE.out]; rfl, rfl⟩
end Go.Proofs.Ytnlimdlmhfnkiaa.FrameW

