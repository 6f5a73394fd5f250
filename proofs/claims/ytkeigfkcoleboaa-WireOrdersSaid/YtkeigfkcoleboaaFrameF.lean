/- Which frames are right: the four functions. -/
import Derived.Test.YtkeigfkcoleboaaFrameP
import Derived.Test.YtkeigfkcoleboaaProg
import Derived.Deep.RegionHeld3
import Derived.Deep.RegionLaw
import Derived.Deep.AppendLies
import Derived.Deep.DeepCutAuto
import Derived.Deep.CutBlock
import Derived.Laws.AppendOwn
import Derived.Laws.OwnMore
import Derived.OwnWalk
import Derived.OneCell
import Derived.DataElems
import Derived.Lib.AtoiErrMem
import Derived.Lib.Hide
import Derived.IntWalk
import Derived.Laws.Unary
import Derived.ProofKit
import Derived.WalkSpells
import Derived.Laws.Slices
namespace Go.Proofs.Ytkeigfkcoleboaa.FrameW
open Go.RowKit
/-- A control frame, a data frame, as values. -/
abbrev CV (k f cy cr cl : Int) : Value := .agg #[.int .i64 k, .int .i64 f, .int .i64 cy, .int .u32 cr, .int .i64 cl]
end Go.Proofs.Ytkeigfkcoleboaa.FrameW

