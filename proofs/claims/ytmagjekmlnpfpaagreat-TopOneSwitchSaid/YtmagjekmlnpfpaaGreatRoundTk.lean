/- The chapter's example, computed. -/
import Derived.Test.YtmagjekmlnpfpaaGreatRoundIJa
import Derived.Test.YtmagjekmlnpfpaaGreatConfVJa
namespace Go.Proofs.YtmagjekmlnpfpaaGreat.RoundW
open Go.RowKit Shell
open ConfW (Cfg CM chk famC)
def tkL : List Ck := [⟨0, 300, 0⟩, ⟨0, 0, 0⟩]
theorem tk_two {a b : Int} (h : a ≤ b) : MeanW.halfAt [a, b] (MeanW.tolK [a, b]) = (a + b) / 2 := by
  unfold MeanW.halfAt
  rw [show MeanW.srt [a, b] = [a, b] from (MeanW.srt_of (List.Perm.refl _) (by rw [List.pairwise_cons]; exact ⟨fun x hx => by rw [List.mem_singleton] at hx; omega, List.pairwise_singleton _ _⟩)).symm]
  have e : MeanW.tolK [a, b] = 0 := by unfold MeanW.tolK; simp
  rw [e]
  rfl
theorem tk_s : snt (famC 2 0) 1 tkL = [1999700, 2000000] := by decide +kernel
theorem tk_ts : CompW.ts (col (famC 2 0) 1 [1999700, 2000000] 0) = [2001700, 2002000] := by decide +kernel
theorem tk_h : CompW.sS (col (famC 2 0) 1 [1999700, 2000000] 0) = 3 := by decide +kernel
theorem tk_p : CompW.pt (col (famC 2 0) 1 [1999700, 2000000] 0) = 2001850 := by
  unfold CompW.pt
  rw [tk_ts, tk_two (by decide)]
  rfl
theorem tk_r : rsl (famC 2 0) 1 [1999700, 2000000] 0 = some (2001850, 3) := by
  unfold rsl
  rw [if_neg (by decide +kernel), tk_p, tk_h]
theorem tk_rgt : Rgt (famC 2 0) 1 tkL := rgt_iff.1 (by decide +kernel)
theorem tk_hrs0 : hrs (famC 2 0) 1 tkL 0 0 0 0 0 = [(2005150, 3), (2005150, 3)] := by
  unfold hrs
  rw [tk_s, tk_r]
  decide +kernel
theorem tk_hrs1 : hrs (famC 2 0) 1 tkL 0 0 0 0 1 = [(2004850, 3), (2004850, 3)] := by
  unfold hrs
  rw [tk_s, tk_r]
  decide +kernel
theorem tk_b : (rndL (famC 2 0) 1 tkL ⟨0, 0, 0, 0⟩).b = [-150, 150] := by
  show (List.range tkL.length).map (fun h => byL (famC 2 0) 1 (hrs (famC 2 0) 1 tkL 0 0 0 0 h)) = _
  show [byL (famC 2 0) 1 (hrs (famC 2 0) 1 tkL 0 0 0 0 0), byL (famC 2 0) 1 (hrs (famC 2 0) 1 tkL 0 0 0 0 1)] = _
  rw [tk_hrs0, tk_hrs1]
  decide +kernel
end Go.Proofs.YtmagjekmlnpfpaaGreat.RoundW

