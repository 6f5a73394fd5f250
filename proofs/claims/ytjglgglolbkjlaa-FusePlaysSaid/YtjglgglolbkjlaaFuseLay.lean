/- What the laws' shells take: no variable is listed. -/
import Derived.Test.YtjglgglolbkjlaaRows
import Derived.Test.YtjglgglolbkjlaaBools
import Derived.Test.YtjglgglolbkjlaaLawShell
import Derived.Test.YtjglgglolbkjlaaOpen
import Derived.Test.YtjglgglolbkjlaaRow1
import Derived.ProofKit
import Derived.OpenShut
import Derived.Laws.Cover2
import Derived.Deep.DeepHandedRow
import Derived.Deep.DeepWitnessRowRef
import Derived.SizedLaws
namespace Go.Proofs.Ytjglgglolbkjlaa.FuseW
open Go.ChangeShapes Go.WideShapes Go.ChangeAt Go.RowKit Shell
theorem own : ownKnob Try.prog.godebug = none := by kernel_rfl
theorem laidOut : laidOutB Try.prog = true := by kernel_rfl
theorem laid_met (os : Os) (args : Array Value) : laidMet Try.prog [] ((World.holding Try.prog os ⟨#[], #[], []⟩).forCall (fun _ _ => 0) ⟨#[], args, []⟩).memory :=
  laidMet_of_run' 8 (by kernel_rfl) (by kernel_rfl)
theorem i64_wf {n : Int} (h : (Lit.int .i64 n).wf = true) : -9223372036854775808 ≤ n ∧ n ≤ 9223372036854775807 := by
  simp [Lit.wf] at h
  exact h
theorem i32_wf {n : Int} (h : (Lit.int .i32 n).wf = true) : -2147483648 ≤ n ∧ n ≤ 2147483647 := by
  simp [Lit.wf] at h
  exact h
theorem u8_nat {n : Int} (h : (Lit.int .u8 n).wf = true) : ∃ c : Nat, n = (c : Int) ∧ c < 256 := by
  have hb : 0 ≤ n ∧ n < 256 := by
    simp [Lit.wf] at h
    have h2 : n ≤ 255 := h.2
    exact ⟨h.1, by omega⟩
  exact ⟨n.toNat, by omega, by omega⟩
end Go.Proofs.Ytjglgglolbkjlaa.FuseW
