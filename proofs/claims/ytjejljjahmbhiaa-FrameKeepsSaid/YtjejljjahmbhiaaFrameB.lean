/- Numbers told by bytes; noughts. -/
import Derived.Test.YtjejljjahmbhiaaFrameA
namespace Go.Proofs.Ytjejljjahmbhiaa.FrameW
open Go.RowKit
theorem val_take {xs : List Int} {k : Nat} {x : Int} (h : xs[k]? = some x) : val (xs.take (k + 1)) = val (xs.take k) * 256 + x.toNat := by
  rw [List.take_add_one, h]
  exact val_snoc _ _
theorem val_small {xs : List Int} {k : Nat} (h : By xs) (hl : xs.length ≤ 8) (hk : k < xs.length) : val (xs.take k) < 72057594037927936 := by
  have h1 := val_lt (h.take k)
  have h2 : 256 ^ (xs.take k).length ≤ 256 ^ 7 := Nat.pow_le_pow_right (by decide) (by simp; omega)
  omega
theorem shl_eq (n : Nat) (x : Int) (h : n < 72057594037927936) (h0 : 0 ≤ x) (h1 : x < 256) : bits .or .u64 (IntKind.u64.wrap ((n : Int) * 256)) (IntKind.u64.wrap x) = ((n * 256 + x.toNat : Nat) : Int) := by
  obtain ⟨b, rfl⟩ := Int.eq_ofNat_of_zero_le h0
  rw [IntKind.wrap_u64, IntKind.wrap_u64, show (n : Int) * 256 % 18446744073709551616 = ((n * 256 : Nat) : Int) by omega, show ((b : Nat) : Int) % 18446744073709551616 = ((b : Nat) : Int) by omega, u64_or_nat _ _ (by omega) (by omega),
    nat_join 8 (n * 256) b (by omega) (by omega), Int.toNat_natCast]
theorem addb_eq (n : Nat) (x : Int) (h : n < 72057594037927936) (h0 : 0 ≤ x) (h1 : x < 256) : IntKind.u64.wrap (IntKind.u64.wrap ((n : Int) * 256) + IntKind.u64.wrap x) = ((n * 256 + x.toNat : Nat) : Int) := by
  rw [IntKind.wrap_u64, IntKind.wrap_u64, IntKind.wrap_u64]
  omega
set_option maxHeartbeats 1000000 in
theorem number_any (A : Option Addr) (c : Nat) (xs : List Int) (w : World) (h : BL w A xs) (hl : xs.length ≤ 8) :
    Calls Try.prog 31 #[.slice A xs.length c] w fun e w' => e = .returned (.int .u64 (val xs)) ∧ w' = w := by
  have H := Lib.hid h
  have HL := Lib.hid hl
  clear h hl
  go_enter Try.func31, Try.ntmps31
  go_wp2
  go_loopw [3, 7] (fun rv iv wr => ∃ (k : Nat), k ≤ xs.length ∧ iv = .int .i64 k ∧ rv = .int .u64 ((val (xs.take k) : Nat) : Int) ∧ wr = w) (fun _ iv _ => xs.length - (intOf iv).toNat)
  case atStart => exact ⟨0, Nat.zero_le _, rfl, rfl, rfl⟩
  case round =>
    obtain ⟨k, hk, rfl, rfl, rfl⟩ := hrel
    have hll := HL.out
    by_cases hlt : k < xs.length
    · obtain ⟨x, hx⟩ : ∃ x, xs[k]? = some x := ⟨_, List.getElem?_eq_getElem hlt⟩
      obtain ⟨ad, rfl, hc, q0, q1⟩ := H.out k x hx
      have HT := Lib.hid (val_take hx)
      have HX := Lib.hid (shl_eq _ x (val_small H.out.by hll hlt) q0 q1)
      generalize val (xs.take k) = r at *
      clear hx q0 q1
      go_wp2
      go_roundw
      case rel => exact ⟨k + 1, by omega, by go_num, by rw [HT.out, ← HX.out], trivial⟩
      case measure => simp [intOf]; omega
    · obtain rfl : k = xs.length := by omega
      rw [List.take_length]
      generalize val xs = r at *
      go_wp2
      go_ret
      exact ⟨rfl, rfl⟩
set_option maxHeartbeats 1000000 in
theorem value_any (A : Option Addr) (c : Nat) (xs : List Int) (w : World) (h : BL w A xs) (hl : xs.length ≤ 8) :
    Calls Try.prog 37 #[.slice A xs.length c] w fun e w' => e = .returned (.int .u64 (val xs)) ∧ w' = w := by
  have H := Lib.hid h
  have HL := Lib.hid hl
  clear h hl
  go_enter Try.func37, Try.ntmps37
  go_wp2
  go_loopw [3, 4] (fun rv iv wr => ∃ (k : Nat), k ≤ xs.length ∧ iv = .int .i64 k ∧ rv = .int .u64 ((val (xs.take k) : Nat) : Int) ∧ wr = w) (fun _ iv _ => xs.length - (intOf iv).toNat)
  case atStart => exact ⟨0, Nat.zero_le _, rfl, rfl, rfl⟩
  case round =>
    obtain ⟨k, hk, rfl, rfl, rfl⟩ := hrel
    have hll := HL.out
    by_cases hlt : k < xs.length
    · obtain ⟨x, hx⟩ : ∃ x, xs[k]? = some x := ⟨_, List.getElem?_eq_getElem hlt⟩
      obtain ⟨ad, rfl, hc, q0, q1⟩ := H.out k x hx
      have HT := Lib.hid (val_take hx)
      have HX := Lib.hid (addb_eq _ x (val_small H.out.by hll hlt) q0 q1)
      generalize val (xs.take k) = r at *
      clear hx q0 q1
      go_wp2
      go_roundw
      case rel => exact ⟨k + 1, by omega, by go_num, by rw [HT.out, ← HX.out], trivial⟩
      case measure => simp [intOf]; omega
    · obtain rfl : k = xs.length := by omega
      rw [List.take_length]
      generalize val xs = r at *
      go_wp2
      go_ret
      exact ⟨rfl, rfl⟩
set_option maxHeartbeats 1000000 in
theorem blank_any (A : Option Addr) (c : Nat) (xs : List Int) (w : World) (h : BL w A xs) (hl : xs.length ≤ 9223372036854775807) :
    Calls Try.prog 32 #[.slice A xs.length c] w fun e w' => e = .returned (.bool (decide (blank xs))) ∧ w' = w := by
  have H := Lib.hid h
  have HL := Lib.hid hl
  clear h hl
  go_enter Try.func32, Try.ntmps32
  go_wp2
  go_loopw [6] (fun iv wr => ∃ (k : Nat), k ≤ xs.length ∧ iv = .int .i64 k ∧ Hid (blank (xs.take k)) ∧ wr = w) (fun iv _ => xs.length - (intOf iv).toNat)
  case atStart => exact ⟨0, Nat.zero_le _, rfl, Lib.hid (fun x hx => by simp at hx), rfl⟩
  case round =>
    obtain ⟨k, hk, rfl, HB, rfl⟩ := hrel
    have hll := HL.out
    by_cases hlt : k < xs.length
    · obtain ⟨x, hx⟩ : ∃ x, xs[k]? = some x := ⟨_, List.getElem?_eq_getElem hlt⟩
      obtain ⟨ad, rfl, hc, q0, q1⟩ := H.out k x hx
      by_cases hx0 : x = 0
      · have HN : Hid (blank (xs.take (k + 1))) := Lib.hid (fun y hy => by
          rw [List.take_add_one, hx] at hy
          rcases List.mem_append.1 hy with h | h
          · exact HB.out y h
          · simp at h; rw [h, hx0])
        clear hx q0 q1
        subst hx0
        go_wp2
        go_roundw
        case rel => exact ⟨k + 1, by omega, by go_num, HN, trivial⟩
        case measure => simp [intOf]; omega
      · have HN := Lib.hid (show decide (blank xs) = false from decide_eq_false (fun h => hx0 (h x (List.mem_of_getElem? hx))))
        have hxb : (x != 0) = true := by simp [hx0]
        clear hx q0 q1
        go_wp2
        go_ret
        exact ⟨by rw [HN.out]; rfl, rfl⟩
    · obtain rfl : k = xs.length := by omega
      have HN := Lib.hid (show decide (blank xs) = true from decide_eq_true (by have := HB.out; rwa [List.take_length] at this))
      clear HB hk
      go_wp2
      go_ret
      exact ⟨by rw [HN.out]; rfl, rfl⟩
end Go.Proofs.Ytjejljjahmbhiaa.FrameW
