/- Which, check. -/
import Derived.Test.YtpdcdnklmoaokaaFrameB
import Derived.WalkSpells
import Derived.Laws.Slices
namespace Go.Proofs.Ytpdcdnklmoaokaa.FrameW
open Go.RowKit
theorem two {l : List Int} (h : l.length = 2) : ∃ a b, l = [a, b] := by
  match l, h with
  | [a, b], _ => exact ⟨a, b, rfl⟩
end Go.Proofs.Ytpdcdnklmoaokaa.FrameW

