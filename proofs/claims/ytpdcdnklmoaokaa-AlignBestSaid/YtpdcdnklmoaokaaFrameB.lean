/- Numbers told by bytes; noughts. -/
import Derived.Test.YtpdcdnklmoaokaaFrameA
namespace Go.Proofs.Ytpdcdnklmoaokaa.FrameW
open Go.RowKit
theorem shl_eq (n : Nat) (x : Int) (h : n < 72057594037927936) (h0 : 0 ≤ x) (h1 : x < 256) : bits .or .u64 (IntKind.u64.wrap ((n : Int) * 256)) (IntKind.u64.wrap x) = ((n * 256 + x.toNat : Nat) : Int) := by
  obtain ⟨b, rfl⟩ := Int.eq_ofNat_of_zero_le h0
  rw [IntKind.wrap_u64, IntKind.wrap_u64, show (n : Int) * 256 % 18446744073709551616 = ((n * 256 : Nat) : Int) by omega, show ((b : Nat) : Int) % 18446744073709551616 = ((b : Nat) : Int) by omega, u64_or_nat _ _ (by omega) (by omega),
    nat_join 8 (n * 256) b (by omega) (by omega), Int.toNat_natCast]
end Go.Proofs.Ytpdcdnklmoaokaa.FrameW

