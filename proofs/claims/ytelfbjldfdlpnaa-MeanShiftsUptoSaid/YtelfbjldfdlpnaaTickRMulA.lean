/- The document's numbers: what Mul reckons with. -/
import Derived.Test.YtelfbjldfdlpnaaTickRSum
namespace Go.Proofs.Ytelfbjldfdlpnaa.TickW
open Go.RowKit
theorem row_get {w : World} {g : Nat} {rs : List Nat} (h : w.heap[g]? = some (.cells (u32s rs).toArray 68 (0, 0))) {k d : Nat} (hk : rs[k]? = some d) : w.cell? ⟨g, k, none⟩ = some (.int .u32 (d : Int)) := by
  rw [cell_of_row w g k _ _ _ h, List.getElem?_toArray]
  unfold u32s
  rw [List.getElem?_map, hk]
  rfl
theorem row_dl {w : World} {g : Nat} {rs : List Nat} (h : w.heap[g]? = some (.cells (u32s rs).toArray 68 (0, 0))) : DL w (some ⟨g, 0, none⟩) rs := by
  intro k d hk
  refine ⟨_, rfl, ?_⟩
  have ha : (⟨g, 0, none⟩ : Addr).add k = ⟨g, k, none⟩ := by unfold Addr.add; split <;> simp_all
  rw [ha]
  exact row_get h hk
end Go.Proofs.Ytelfbjldfdlpnaa.TickW

