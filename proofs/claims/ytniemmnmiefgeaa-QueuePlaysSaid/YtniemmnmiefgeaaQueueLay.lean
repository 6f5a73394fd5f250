/- What the laws' shells take: no variable is listed. -/
import Derived.Test.YtniemmnmiefgeaaRows
import Derived.Test.YtniemmnmiefgeaaQueueFixed
import Derived.Test.YtniemmnmiefgeaaLawShell
import Derived.Test.YtniemmnmiefgeaaOpen
import Derived.ProofKit
import Derived.OpenShut
import Derived.Laws.Cover2
import Derived.Deep.DeepHandedRow
import Derived.Deep.DeepWitnessRowRef
import Derived.SizedLaws
namespace Go.Proofs.Ytniemmnmiefgeaa.QueueW
open Go.ChangeShapes Go.WideShapes Go.ChangeAt Go.RowKit
theorem own : ownKnob Try.prog.godebug = none := by kernel_rfl
theorem laidOut : laidOutB Try.prog = true := by kernel_rfl
theorem laid_met (os : Os) (args : Array Value) : laidMet Try.prog [] ((World.holding Try.prog os ⟨#[], #[], []⟩).forCall (fun _ _ => 0) ⟨#[], args, []⟩).memory :=
  laidMet_of_run' 8 (by kernel_rfl) (by kernel_rfl)
end Go.Proofs.Ytniemmnmiefgeaa.QueueW
