/- The chapter's examples. -/
import Derived.Test.YtmagjekmlnpfpaaGreatConfVJa
import Derived.Test.YtmagjekmlnpfpaaGreatConfT
import Derived.Test.YtmagjekmlnpfpaaGreatConfHJa
namespace Go.Proofs.YtmagjekmlnpfpaaGreat.ConfW
open Go.RowKit Shell
theorem CM.wf {w : World} (c : Cfg) (D E L : Option Addr) (nd cd ne ce nl cl : Nat) (h : CM w c D E L nd cd ne ce nl cl) : ∀ r ∈ c.delays, Wf .i64 r ∧ r.length ≤ maxLen := by
  intro r hr
  obtain ⟨k, hk⟩ := List.getElem?_of_mem hr
  obtain ⟨_, _, _, _, _, h3, h4, _⟩ := h.hd k r hk
  exact ⟨h3.wf, h4⟩
def e0 : R4 := ⟨0, 14, 10000, 64⟩
end Go.Proofs.YtmagjekmlnpfpaaGreat.ConfW


