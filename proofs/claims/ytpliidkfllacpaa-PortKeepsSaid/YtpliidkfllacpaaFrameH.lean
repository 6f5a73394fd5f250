/- The document's own control frame. -/
import Derived.Test.YtpliidkfllacpaaFrameG
namespace Go.Proofs.Ytpliidkfllacpaa.FrameW
open Go.RowKit
theorem heap_at {w : World} {g : Nat} (h : w.heap.size = g) (o : Obj) : (w.alloc o).heap[g]? = some o := by subst h; exact heap_alloc_new w o
theorem Grow.len {w0 w : World} {g : Nat} {box : Obj} {v : Value} {xs : List Int} (h : Grow w0 g box w v xs) : ∃ A m c, v = .slice A m c ∧ m = xs.length := by
  obtain ⟨A, c, hv, -⟩ := h.o.form
  exact ⟨A, _, c, hv, rfl⟩
end Go.Proofs.Ytpliidkfllacpaa.FrameW

