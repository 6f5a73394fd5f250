/- Which, check. -/
import Derived.Test.YtmagjekmlnpfpaaGreatFrameAJa
import Derived.WalkSpells
import Derived.Laws.Slices
namespace Go.Proofs.YtmagjekmlnpfpaaGreat.FrameW
open Go.RowKit
theorem two {l : List Int} (h : l.length = 2) : ∃ a b, l = [a, b] := by
  match l, h with
  | [a, b], _ => exact ⟨a, b, rfl⟩
end Go.Proofs.YtmagjekmlnpfpaaGreat.FrameW


