/- What bytes tell: Sum, number, blank, Which, check; the document's own Sum, value. -/
import Derived.Test.YtmagjekmlnpfpaaGreatFrameP
import Derived.Test.YtmagjekmlnpfpaaGreatProg
import Derived.Deep.RegionHeld3
import Derived.Deep.RegionLaw
import Derived.Deep.AppendLies
import Derived.Deep.DeepCutAuto
import Derived.Deep.CutBlock
import Derived.Laws.AppendOwn
import Derived.Laws.OwnMore
import Derived.OwnWalk
import Derived.OneCell
import Derived.DataElems
import Derived.Lib.AtoiErrMem
import Derived.Lib.Hide
import Derived.IntWalk
import Derived.Laws.Unary
import Derived.ProofKit
namespace Go.Proofs.YtmagjekmlnpfpaaGreat.FrameW
open Go.RowKit
theorem al {w w1 : World} (h : Below w.heap.size w w1) (o : Obj) : Below w.heap.size w (w1.alloc o) := h.alloc h.size o
theorem row_lt {w : World} {g : Nat} {o : Obj} (h : w.heap[g]? = some o) : g < w.heap.size := by
  rcases Nat.lt_or_ge g w.heap.size with h1 | h1
  · exact h1
  · rw [Array.getElem?_eq_none h1] at h; cases h
theorem row_below {w w1 : World} (b : Below w.heap.size w w1) {g : Nat} {o : Obj} (h : w.heap[g]? = some o) : w1.heap[g]? = some o := (b.block g (row_lt h)).trans h
theorem cell_keep {w1 w2 : World} {a : Addr} {v : Value} (h : w1.cell? a = some v) (b : Below w1.heap.size w1 w2) : w2.cell? a = some v := (b.cell (Lib.lt_of_cell h)).trans h
theorem of_drew {W w1 : World} (b : Below W.drew.heap.size W.drew w1) : Below W.heap.size W w1 := ⟨b.os, b.tape, b.output, b.size, b.block⟩
/-- The slice's cells hold these bytes. -/
def BL (w : World) (A : Option Addr) (xs : List Int) : Prop := ∀ k x, xs[k]? = some x → ∃ a, A = some a ∧ w.cell? (a.add k) = some (.int .u8 x) ∧ 0 ≤ x ∧ x < 256
theorem BL.below {w w1 : World} {A : Option Addr} {xs : List Int} (h : BL w A xs) (b : Below w.heap.size w w1) : BL w1 A xs := by
  intro k x hx
  obtain ⟨a, ha, hc, hb⟩ := h k x hx
  exact ⟨a, ha, cell_keep hc b, hb⟩
theorem BL.by {w : World} {A : Option Addr} {xs : List Int} (h : BL w A xs) : By xs := by
  intro x hx
  obtain ⟨k, hk⟩ := List.getElem?_of_mem hx
  obtain ⟨_, _, _, hb⟩ := h k x hk
  exact hb
theorem BL.some {w : World} {A : Option Addr} {xs : List Int} (h : BL w A xs) (hl : 0 < xs.length) : ∃ a, A = some a := by
  obtain ⟨a, ha, -⟩ := h 0 xs[0] (List.getElem?_eq_getElem hl)
  exact ⟨a, ha⟩
theorem BL.sl {w : World} {a : Addr} {xs : List Int} (h : BL w (Option.some a) xs) (p q : Nat) : BL w (Option.some (a.add p)) (sl xs p q) := by
  intro k x hx
  unfold FrameW.sl at hx
  rw [List.getElem?_take] at hx
  split at hx
  · rw [List.getElem?_drop] at hx
    obtain ⟨b, hb, hc, hh⟩ := h (p + k) x hx
    cases hb
    exact ⟨_, rfl, by rw [Addr.add_add]; exact hc, hh⟩
  · cases hx
theorem st_eq (r : Nat) (h : r < 4294967296) : bits .xor .u32 ((r : Int) / 2) (bits .and .u32 (r : Int) 1 * 3988292384 % 4294967296) = ((st r : Nat) : Int) := by
  have e1 : bits .and .u32 (r : Int) 1 = ((r % 2 : Nat) : Int) := by
    have := u32_and_nat r 1 h (by decide)
    rw [nat_mask1] at this
    exact this
  have h2 := Nat.mod_lt r (show 2 > 0 by decide)
  rw [e1, show ((r % 2 : Nat) : Int) * 3988292384 % 4294967296 = ((r % 2 * 3988292384 : Nat) : Int) by omega, show (r : Int) / 2 = ((r / 2 : Nat) : Int) by omega,
    u32_xor_nat _ _ (by omega) (by omega)]
  rfl
theorem byte_eq (r : Nat) (x : Int) (h : r < 4294967296) (h0 : 0 ≤ x) (h1 : x < 256) : bits .xor .u32 (r : Int) (x % 4294967296) = ((r ^^^ x.toNat : Nat) : Int) := by
  rw [show x % 4294967296 = x by omega, u32_xor _ _ (by omega) (by omega) h0 (by omega), Int.toNat_natCast]
theorem not_eq (r : Nat) (h : r < 4294967296) : r ^^^ 4294967295 = 4294967295 - r := by
  have h1 := BitVec.toNat_not (x := BitVec.ofNat 32 r)
  rw [← BitVec.allOnes_xor, BitVec.toNat_xor, BitVec.toNat_allOnes, BitVec.toNat_ofNat, Nat.mod_eq_of_lt (show r < 2 ^ 32 by omega), Nat.xor_comm] at h1
  exact h1
theorem turn_eq (r : Nat) (h : r < 4294967296) : bits .xor .u32 4294967295 (r : Int) = ((4294967295 - r : Nat) : Int) := by
  have := u32_xor_nat 4294967295 r (by decide) h
  rw [Nat.xor_comm, not_eq r h] at this
  exact this
theorem go_take {xs : List Int} {k : Nat} {x : Int} (h : xs[k]? = some x) (r : Nat) : go r (xs.take (k + 1)) = up (go r (xs.take k)) x := by
  rw [List.take_add_one, h]
  exact go_snoc _ _ _
set_option maxHeartbeats 1000000 in
theorem sum_any (A : Option Addr) (c : Nat) (xs : List Int) (w : World) (h : BL w A xs) (hl : xs.length ≤ 9223372036854775807) :
    Calls Tryz.prog 213 #[.slice A xs.length c] w fun e w' => e = .returned (.int .u32 (crc xs)) ∧ w' = w := by
  have H := Lib.hid h
  have HL := Lib.hid hl
  clear h hl
  go_enter Tryz.func213, Tryz.ntmps213
  go_wp2
  go_loopw [3, 8] (fun rv iv wr => ∃ (k : Nat), k ≤ xs.length ∧ iv = .int .i64 k ∧ rv = .int .u32 ((go 4294967295 (xs.take k) : Nat) : Int) ∧ wr = w) (fun _ iv _ => xs.length - (intOf iv).toNat)
  case atStart => exact ⟨0, Nat.zero_le _, rfl, rfl, rfl⟩
  case round =>
    obtain ⟨k, hk, rfl, rfl, rfl⟩ := hrel
    have hll := HL.out
    by_cases hlt : k < xs.length
    · obtain ⟨x, hx⟩ : ∃ x, xs[k]? = some x := ⟨_, List.getElem?_eq_getElem hlt⟩
      obtain ⟨ad, rfl, hc, q0, q1⟩ := H.out k x hx
      have gl := go_lt (H.out.by.take k) (r := 4294967295) (by decide)
      have HT := Lib.hid (go_take hx 4294967295)
      have HX := Lib.hid (byte_eq _ x gl q0 q1)
      have hxl := Lib.hid (xor_lt (r := go 4294967295 (xs.take k)) (b := x) gl q1)
      generalize go 4294967295 (xs.take k) = r at *
      clear hx q0 q1 gl
      go_wp2
      rw [HX.out]
      obtain ⟨w0, hw0⟩ : ∃ w0, w0 = wr := ⟨_, rfl⟩
      subst hw0
      go_loopw [3, 18] (fun rv iv wr => ∃ (j : Nat), j ≤ 8 ∧ iv = .int .i64 j ∧ rv = .int .u32 ((rep j (r ^^^ x.toNat) : Nat) : Int) ∧ wr = w0) (fun _ iv _ => 8 - (intOf iv).toNat)
      case atStart => exact ⟨0, Nat.zero_le _, rfl, rfl, rfl⟩
      case round =>
        obtain ⟨j, hj, rfl, rfl, rfl⟩ := hrel
        by_cases hlt2 : (j : Int) < 8
        · obtain ⟨R, hR⟩ : ∃ R, R = rep j (r ^^^ x.toNat) := ⟨_, rfl⟩
          have HS := Lib.hid (st_eq _ (rep_lt hxl.out j))
          have HR := Lib.hid (show rep (j + 1) (r ^^^ x.toNat) = st R by rw [hR]; rfl)
          rw [← hR] at HS ⊢
          clear hR
          generalize r ^^^ x.toNat = y at *
          go_wp2
          go_roundw
          case rel => exact ⟨j + 1, by omega, by go_num, by rw [HR.out, ← HS.out], trivial⟩
          case measure => simp [intOf]; omega
        · have HJ := Lib.hid (show rep j (r ^^^ x.toNat) = go 4294967295 (xs.take (k + 1)) by rw [show j = 8 by omega, HT.out]; rfl)
          generalize rep j (r ^^^ x.toNat) = R at *
          clear hj
          go_wp2
          exact ⟨⟨_, _, _, _, ⟨k + 1, by omega, by go_num, by rw [HJ.out]⟩, rfl, rfl, rfl, rfl⟩, by simp [intOf]; omega⟩
    · obtain rfl : k = xs.length := by omega
      rw [List.take_length]
      have gl := go_lt H.out.by (r := 4294967295) (by decide)
      have e : (4294967295 - go 4294967295 xs : Nat) = crc xs := rfl
      have HE := Lib.hid (turn_eq _ gl)
      have HC := Lib.hid e
      clear e gl
      generalize go 4294967295 xs = r at *
      generalize crc xs = s at *
      go_wp2
      go_ret
      exact ⟨by rw [← HC.out, ← HE.out]; rfl, rfl⟩
end Go.Proofs.YtmagjekmlnpfpaaGreat.FrameW



/- Numbers told by bytes; noughts. -/
namespace Go.Proofs.YtmagjekmlnpfpaaGreat.FrameW
open Go.RowKit
theorem shl_eq (n : Nat) (x : Int) (h : n < 72057594037927936) (h0 : 0 ≤ x) (h1 : x < 256) : bits .or .u64 (IntKind.u64.wrap ((n : Int) * 256)) (IntKind.u64.wrap x) = ((n * 256 + x.toNat : Nat) : Int) := by
  obtain ⟨b, rfl⟩ := Int.eq_ofNat_of_zero_le h0
  rw [IntKind.wrap_u64, IntKind.wrap_u64, show (n : Int) * 256 % 18446744073709551616 = ((n * 256 : Nat) : Int) by omega, show ((b : Nat) : Int) % 18446744073709551616 = ((b : Nat) : Int) by omega, u64_or_nat _ _ (by omega) (by omega),
    nat_join 8 (n * 256) b (by omega) (by omega), Int.toNat_natCast]
end Go.Proofs.YtmagjekmlnpfpaaGreat.FrameW


