/- What the laws' shells take: no variable is listed; frames and bytes that came in, opened. -/
import Derived.Test.YtmagjekmlnpfpaaGreatRows
import Derived.Test.YtmagjekmlnpfpaaGreatFrameEJa
import Derived.Test.YtmagjekmlnpfpaaGreatLawShell
import Derived.Test.YtmagjekmlnpfpaaGreatOpen
import Derived.ProofKit
import Derived.OpenShut
import Derived.Laws.Cover2
import Derived.Deep.DeepHandedRow
import Derived.Deep.DeepWitnessRowRef
import Derived.SizedLaws
namespace Go.Proofs.YtmagjekmlnpfpaaGreat.FrameW
open Go.ChangeShapes Go.WideShapes Go.ChangeAt Go.RowKit Shell
set_option maxRecDepth 100000 in
theorem own : ownKnob Tryz.prog.godebug = none := by kernel_rfl
set_option maxRecDepth 100000 in
theorem laidOut : laidOutB Tryz.prog = true := by kernel_rfl
set_option maxRecDepth 100000 in
theorem laid_met (os : Os) (args : Array Value) : laidMet Tryz.prog [] ((World.holding Tryz.prog os ⟨#[], #[], []⟩).forCall (fun _ _ => 0) ⟨#[], args, []⟩).memory :=
  laidMet_of_run' 8 (by kernel_rfl) (by kernel_rfl)
section
variable {H : Type} {enc : TypeId × Value → H}
set_option maxRecDepth 100000 in
theorem u32_wf {n : Int} (h : (Lit.int .u32 n).wf = true) : 0 ≤ n ∧ n ≤ 4294967295 := by
  simp [Lit.wf] at h
  exact h
set_option maxRecDepth 100000 in
theorem five {l : Array Value} (h : l.size = 5) : ∃ a b c d e, l = #[a, b, c, d, e] := by
  obtain ⟨l⟩ := l
  match l, h with
  | [a, b, c, d, e], _ => exact ⟨a, b, c, d, e, rfl⟩
set_option maxRecDepth 100000 in
theorem field_at {w : World} {base : Nat} {spare : Nat → Bool} {held : Bool} {n : Nat} {fs : Array Field} {cs : List Value} {ys : List (DataW H × List MemPlace)}
    (hg : ∀ (i : Nat) (f : Field), fs[i]? = some f → DataW.trod enc Tryz.prog w base spare held n f.type ((cs.drop f.offset).take (Tryz.prog.cellsOf f.type)) = ys[i]?) (hl : ys.length = fs.size)
    (i : Nat) (t : TypeId) (f : Field) (x : Value) (hf : fs[i]? = some f) (ho : f.offset = i) (ht : f.type = t) (hc : Tryz.prog.cellsOf t = 1) (hx : cs[i]? = some x) : ∃ y, DataW.trod enc Tryz.prog w base spare held n t [x] = some y := by
  have h := hg i f hf
  have hi : i < ys.length := by
    rw [hl]
    rcases Nat.lt_or_ge i fs.size with h | h
    · exact h
    · rw [Array.getElem?_eq_none h] at hf; cases hf
  have hj : i < cs.length := by
    rcases Nat.lt_or_ge i cs.length with h | h
    · exact h
    · rw [List.getElem?_eq_none h] at hx; cases hx
  rw [ht, ho, hc, List.getElem?_eq_getElem hi] at h
  rw [List.getElem?_eq_getElem hj] at hx
  have h1 : (cs.drop i).take 1 = [x] := by
    rw [List.drop_eq_getElem_cons hj, Option.some.inj hx]
    rfl
  rw [h1] at h
  exact ⟨_, h⟩
end
end Go.Proofs.YtmagjekmlnpfpaaGreat.FrameW


