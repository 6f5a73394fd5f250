/- tocsinlaw02.fixed: the chapter's examples. -/
import Derived.Test.YtmagjekmlnpfpaaGreatTickSum
import Derived.Lib.LaidTab
import Derived.Stop.LaidErr
import Derived.BigRegion
import Derived.Deep.QuietTactic
namespace Go.Proofs.YtmagjekmlnpfpaaGreat.TickW
open Go.RowKit
theorem ansV_in (z : Int) (h0 : -9223372036854775808 ≤ z) (h1 : z ≤ 9223372036854775807) : ansV z = .tuple #[.int .i64 z, .int .i64 0] := by
  unfold ansV; rw [if_pos ⟨h0, h1⟩]
theorem ansV_out (z : Int) (h : z < -9223372036854775808 ∨ 9223372036854775807 < z) : ansV z = .tuple #[.int .i64 0, .int .i64 4] := by
  unfold ansV; rw [if_neg (by omega)]
end Go.Proofs.YtmagjekmlnpfpaaGreat.TickW


