/- Control; the document's own. -/
import Derived.Test.YtkeigfkcoleboaaFrameP
import Derived.Test.YtkeigfkcoleboaaProg
import Derived.Deep.RegionHeld3
import Derived.Deep.RegionLaw
import Derived.Deep.AppendLies
import Derived.Deep.DeepCutAuto
import Derived.Deep.CutBlock
import Derived.Laws.AppendOwn
import Derived.Laws.OwnMore
import Derived.OwnWalk
import Derived.OneCell
import Derived.DataElems
import Derived.Lib.AtoiErrMem
import Derived.Lib.Hide
import Derived.IntWalk
import Derived.Laws.Unary
import Derived.ProofKit
import Derived.WalkSpells
import Derived.Laws.Slices
import Derived.Deep.DeepAppendRoom
import Derived.Laws.Shifts
import Derived.Deep.OwnRows
import Derived.Test.YtkeigfkcoleboaaFrameF
import Derived.Laws.MakeOwn
import Derived.Lib.AppendStr
namespace Go.Proofs.Ytkeigfkcoleboaa.FrameW
open Go.RowKit
theorem cells5 {w : World} {j : Nat} {x y z u v : Value} {t : TypeId} {fr : Nat × Nat} (h : w.heap[j]? = some (.cells #[x, y, z, u, v] t fr)) : w.cell? ⟨j, 0, none⟩ = some x ∧ w.cell? ⟨j, 1, none⟩ = some y ∧ w.cell? ⟨j, 2, none⟩ = some z ∧ w.cell? ⟨j, 3, none⟩ = some u ∧ w.cell? ⟨j, 4, none⟩ = some v :=
  ⟨cell_of_row w j 0 _ _ _ h, cell_of_row w j 1 _ _ _ h, cell_of_row w j 2 _ _ _ h, cell_of_row w j 3 _ _ _ h, cell_of_row w j 4 _ _ _ h⟩
abbrev cbox (k f cy cr cl : Int) : Obj := .cells #[.int .i64 k, .int .i64 f, .int .i64 cy, .int .u32 cr, .int .i64 cl] 44
end Go.Proofs.Ytkeigfkcoleboaa.FrameW

