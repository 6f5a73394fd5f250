/- What the row's listed variables give a walk; a world for the witness. -/
import Derived.Test.YtmagjekmlnpfpaaGreatTickFixed
import Derived.Test.YtmagjekmlnpfpaaGreatLawShell
import Derived.ProofKit
import Derived.OpenShut
import Derived.Laws.Cover2
import Derived.Deep.DeepHandedRow
import Derived.Deep.DeepWitnessRowRef
import Derived.Lib.LaidTab
import Derived.Stop.LaidErr
namespace Go.Proofs.YtmagjekmlnpfpaaGreat.TickW
open Go.ChangeShapes Go.WideShapes Go.ChangeAt Go.RowKit
theorem own : ownKnob Tryz.prog.godebug = none := by kernel_rfl
theorem laidOut : laidOutB Tryz.prog = true := by kernel_rfl
end Go.Proofs.YtmagjekmlnpfpaaGreat.TickW


