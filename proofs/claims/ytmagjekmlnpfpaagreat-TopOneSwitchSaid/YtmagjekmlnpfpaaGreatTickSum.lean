/- tick.Sum: the sum of any numbers, reckoned without any bound. -/
import Derived.Test.YtmagjekmlnpfpaaGreatTickDivJa
import Derived.Deep.RegionLaw
import Derived.Deep.RegionWith
namespace Go.Proofs.YtmagjekmlnpfpaaGreat.TickW
open Go.RowKit
/-- The slice's cells hold these numbers of 64 bits. -/
def IL (w : World) (A : Option Addr) (xs : List Int) : Prop := ∀ k x, xs[k]? = some x → ∃ a, A = some a ∧ w.cell? (a.add k) = some (.int .i64 x) ∧ -9223372036854775808 ≤ x ∧ x ≤ 9223372036854775807
theorem IL.below {w w1 : World} {A : Option Addr} {xs : List Int} (h : IL w A xs) (b : Below w.heap.size w w1) : IL w1 A xs := by
  intro k x hx
  obtain ⟨a, ha, hc, hb⟩ := h k x hx
  exact ⟨a, ha, cell_keep hc b, hb⟩
theorem row_lt {w : World} {g : Nat} {o : Obj} (h : w.heap[g]? = some o) : g < w.heap.size := by
  rcases Nat.lt_or_ge g w.heap.size with h1 | h1
  · exact h1
  · rw [Array.getElem?_eq_none h1] at h; cases h
end Go.Proofs.YtmagjekmlnpfpaaGreat.TickW


