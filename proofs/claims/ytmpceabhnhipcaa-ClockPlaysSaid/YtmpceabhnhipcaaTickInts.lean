/- A slice of int64 that came in, opened: the numbers that it holds; a row of our own as such numbers. -/
import Derived.Test.YtmpceabhnhipcaaTickFixed
import Derived.Test.YtmpceabhnhipcaaLawShell


import Derived.ProofKit
import Derived.OpenShut
import Derived.Laws.Cover2
import Derived.Deep.DeepHandedRow
import Derived.Deep.DeepWitnessRowRef
import Derived.Lib.LaidTab
import Derived.Stop.LaidErr
import Derived.Test.YtmpceabhnhipcaaTickMulDiv
import Derived.Deep.RegionLaw
import Derived.Deep.RegionWith
import Derived.Test.YtmpceabhnhipcaaTickWide
import Derived.Test.YtmpceabhnhipcaaTickRefP
import Derived.Laws.AppendOwn
import Derived.Laws.OwnMore
import Derived.OwnWalk
import Derived.OneCell
import Derived.DataElems
import Derived.Deep.DeepCutAuto
import Derived.Deep.CutBlock
import Derived.Deep.Slices
import Derived.SizedLaws
namespace Go.Proofs.Ytmpceabhnhipcaa.TickW
open Go.ChangeShapes Go.WideShapes Go.ChangeAt Go.RowKit
section
variable {P : Program} {H : Type} {enc : TypeId × Value → H}
theorem i64_wf {n : Int} (h : (Lit.int .i64 n).wf = true) : -9223372036854775808 ≤ n ∧ n ≤ 9223372036854775807 := by
  simp [Lit.wf] at h
  exact h
end
end Go.Proofs.Ytmpceabhnhipcaa.TickW

