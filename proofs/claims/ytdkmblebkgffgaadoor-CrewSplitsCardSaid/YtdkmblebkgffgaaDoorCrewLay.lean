/- What the row's listed variable gives a walk; a world for the witness; arguments opened. -/
import Derived.Test.YtdkmblebkgffgaaDoorCrewFixed
import Derived.Test.YtdkmblebkgffgaaDoorLawShell
import Derived.Test.YtdkmblebkgffgaaDoorCards
import Derived.Test.YtdkmblebkgffgaaDoorTie
import Derived.ProofKit
import Derived.OpenShut
import Derived.Laws.Cover2
import Derived.Deep.DeepHandedRow
import Derived.Deep.DeepWitnessRowRef
import Derived.Lib.LaidTab
import Derived.SizedLaws
namespace Go.Proofs.YtdkmblebkgffgaaDoor.CrewW
open Go.ChangeShapes Go.WideShapes Go.ChangeAt Go.RowKit Shell
theorem own : ownKnob Tryd.prog.godebug = none := by kernel_rfl
theorem laidOut : laidOutB Tryd.prog = true := by kernel_rfl
def lay : List (String × DataW Unit) := Rows.crewTellsRow.laid
theorem gTab : Tryd.prog.globalNamed "math/bits.deBruijn32tab" = some 0 := by kernel_rfl
theorem gTabType : (Tryd.prog.globals[0]?).map (·.type) = some 44 := by kernel_rfl
theorem tz_of {W : World} (h : laidMetH Tryd.prog lay W) : Tz W := by
  have h1 : laidMet Tryd.prog lay W := h
  have ht : Lib.TabIs Tryd.prog W "math/bits.deBruijn32tab" .u8 [0, 1, 28, 2, 29, 14, 24, 3, 30, 22, 20, 15, 25, 17, 4, 8, 31, 27, 13, 23, 21, 19, 16, 7, 26, 12, 18, 6, 11, 5, 10, 9] :=
    Lib.tabIs_of_head (rest := _) gTab gTabType Tryd.underlying44 Tryd.underlying5 (by kernel_rfl) (by kernel_rfl) h1
  intro j hj
  have hc := ht.cell gTab j hj
  have e : ∀ j, j < 32 → (([0, 1, 28, 2, 29, 14, 24, 3, 30, 22, 20, 15, 25, 17, 4, 8, 31, 27, 13, 23, 21, 19, 16, 7, 26, 12, 18, 6, 11, 5, 10, 9] : List Int).getD j 0) = ((Go.Lib.deBruijn32tab.getD j 0 : Nat) : Int) := by decide
  rw [← e j hj]
  exact hc
/-- A world for the witness: the settled one, the listed variable holding what its initialiser lays. -/
noncomputable def laidWorld (os : Os) : World :=
  let w0 := World.holding Tryd.prog os ⟨#[], #[], []⟩
  let put (h : Array Obj) (g : Nat) (cs : Array Value) : Array Obj := h.modify g fun
    | .cells _ t frozen => .cells cs t frozen
    | o => o
  let h0 := put w0.heap 0 ([0, 1, 28, 2, 29, 14, 24, 3, 30, 22, 20, 15, 25, 17, 4, 8, 31, 27, 13, 23, 21, 19, 16, 7, 26, 12, 18, 6, 11, 5, 10, 9].map fun z : Int => Value.int .u8 z).toArray
  { w0 with heap := h0 }
theorem laid_met (os : Os) (args : Array Value) : laidMet Tryd.prog lay ((laidWorld os).forCall (fun _ _ => 0) ⟨#[], args, []⟩).memory :=
  laidMet_of_run' 8 (by kernel_rfl) (by kernel_rfl)
section
variable {H : Type} {enc : TypeId × Value → H}
theorem i64_wf {n : Int} (h : (Lit.int .i64 n).wf = true) : -9223372036854775808 ≤ n ∧ n ≤ 9223372036854775807 := by
  simp [Lit.wf] at h
  exact h
/-- A crew that came in, as a natural number. -/
theorem u32_nat {n : Int} (h : (Lit.int .u32 n).wf = true) : ∃ c : Nat, n = (c : Int) ∧ c < 4294967296 := by
  obtain ⟨h0, h1⟩ := u32_bound h
  exact ⟨n.toNat, by omega, by omega⟩
theorem up_of {xs : List Int} (h : Wf .u32 xs) : ∃ l : List Nat, xs = up l ∧ l.length = xs.length := by
  refine ⟨xs.map Int.toNat, ?_, by simp⟩
  unfold up
  rw [List.map_map]
  conv => lhs; rw [← List.map_id xs]
  refine List.map_congr_left fun x hx => ?_
  have := (u32_bound (h x hx)).1
  simp
  omega
end
end Go.Proofs.YtdkmblebkgffgaaDoor.CrewW
