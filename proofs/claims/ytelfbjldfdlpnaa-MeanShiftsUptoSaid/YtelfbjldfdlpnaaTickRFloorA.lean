/- The document's numbers: what Floor reckons with. -/
import Derived.Test.YtelfbjldfdlpnaaTickRMul2
namespace Go.Proofs.Ytelfbjldfdlpnaa.TickW
open Go.RowKit
theorem bit_eq (X d : Nat) : ∀ k, k < 16 → (X * 65536 + d) / 2 ^ k % 2 = d / 2 ^ k % 2 := by
  intro k hk
  obtain ⟨e, he⟩ : ∃ e, 65536 = 2 ^ k * (2 * e) := ⟨2 ^ (15 - k), by
    rw [← Nat.mul_assoc, Nat.mul_right_comm, ← Nat.pow_add, Nat.mul_comm, ← Nat.pow_succ']
    rw [show (k + (15 - k)).succ = 16 by omega]⟩
  rw [he, show X * (2 ^ k * (2 * e)) = 2 ^ k * (2 * (X * e)) by ac_rfl, Nat.mul_add_div (Nat.pow_pos (by decide))]
  generalize X * e = u
  generalize d / 2 ^ k = v
  omega
theorem half_step (Z n : Nat) : Z / 2 ^ n = 2 * (Z / 2 ^ (n + 1)) + Z / 2 ^ n % 2 := by
  rw [Nat.pow_succ, ← Nat.div_div_eq_div_mul]
  omega
theorem fl_step {P Q R y b : Nat} (h : P = Q * y + R) : 2 * P + b = (Q + Q) * y + (R + R + b) := by
  rw [Nat.add_mul]; omega
theorem trim_dl (A : Option Addr) (c m : Nat) (neg : Bool) (w : World) (hd : DL w A (dl m)) (hc : (dl m).length ≤ c) (hl : (dl m).length ≤ 1000) :
    Calls Try.prog 47 #[.agg #[.slice A (dl m).length c, .bool neg]] w fun e w' =>
      e = .returned (.agg #[.slice A (dl m).length c, .bool (neg && decide (0 < m))]) ∧ DL w' A (dl m) ∧ Below w.heap.size w w' := by
  have T := trim_any A c (dl m) neg w hd (dl_lt m) hc hl
  rw [val_dl] at T
  exact T.mono fun e w' h => ⟨h.1, h.2.1, h.2.2.2⟩
theorem dl_one : dl 1 = [1] := by rw [dl_pos (by decide), dl_zero]
theorem field_digits (A : Option Addr) (n c : Nat) (b : Bool) (w : World) : (Instr.field 62 (.agg #[.slice A n c, .bool b]) 0).run Try.prog w = .ok (.slice A n c) w := by
  rfl
theorem bit_val (d m : Nat) : ((d : Int) / 2 ^ m).tmod 2 = ((d / 2 ^ m % 2 : Nat) : Int) := by
  have e : (d : Int) / 2 ^ m = ((d / 2 ^ m : Nat) : Int) := by rw [Int.natCast_ediv, Int.natCast_pow]; rfl
  rw [e]
  generalize d / 2 ^ m = v
  rw [Int.tmod_eq_emod_of_nonneg (by omega)]
  omega
theorem one_dl {w : World} {g : Nat} (h : w.heap[g]? = some (.cells #[.int .u32 1] 68 (0, 0))) : DL w (some ⟨g, 0, none⟩) (dl 1) := by
  rw [dl_one]
  exact row_dl (rs := [1]) h
theorem len_one : (dl 1).length = 1 := by rw [dl_one]; rfl
theorem floor_eq {a q r y : Int} (h : a = q * y + r) (h0 : 0 ≤ r) (h1 : r < y) : a / y = q := by
  rw [h, Int.add_comm, Int.add_mul_ediv_right _ _ (by omega), Int.ediv_eq_zero_of_lt h0 h1, Int.zero_add]
theorem floor_pos {x y Q R : Nat} (h : x = Q * y + R) (hr : R < y) : (x : Int) / (y : Int) = (Q : Int) := by
  refine floor_eq (r := (R : Int)) ?_ (by omega) (by omega)
  rw [h, Int.natCast_add, Int.natCast_mul]
theorem floor_neg0 {x y Q : Nat} (h : x = Q * y + 0) (hy : 0 < y) : (-(x : Int)) / (y : Int) = -(Q : Int) := by
  refine floor_eq (r := 0) ?_ (by omega) (by omega)
  rw [h, Nat.add_zero, Int.natCast_mul, Int.neg_mul, Int.add_zero]
theorem floor_neg1 {x y Q R : Nat} (h : x = Q * y + R) (hr : R < y) (h0 : 0 < R) : (-(x : Int)) / (y : Int) = -((Q : Int) + 1) := by
  refine floor_eq (r := (y : Int) - (R : Int)) ?_ (by omega) (by omega)
  rw [h, Int.natCast_add, Int.natCast_mul, Int.neg_mul, Int.add_mul, Int.one_mul]
  omega
theorem sg_nat (n : Nat) : sg (n : Int) = false := decide_eq_false (by omega)
theorem trim_nat (A : Option Addr) (c m : Nat) (w : World) (hd : DL w A (dl m)) (hc : (dl m).length ≤ c) (hl : (dl m).length ≤ 1000) :
    Calls Try.prog 47 #[.agg #[.slice A (dl m).length c, .bool false]] w fun e w' =>
      e = .returned (.agg #[.slice A (dn (m : Int)) c, .bool (sg (m : Int))]) ∧ WD w' A c (m : Int) ∧ Below w.heap.size w w' := by
  refine (trim_dl A c m false w hd hc hl).mono ?_
  rintro e w' ⟨rfl, hd2, hb⟩
  exact ⟨by rw [sg_nat]; rfl, ⟨hd2, hc⟩, hb⟩
end Go.Proofs.Ytelfbjldfdlpnaa.TickW

