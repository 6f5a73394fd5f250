/- Walks of the document's own: short, Spans, Route, Quiet, Times, Plain, meet. -/
import Derived.Test.YtpdcdnklmoaokaaConfC
namespace Go.Proofs.Ytpdcdnklmoaokaa.ConfW
open Go.RowKit Shell
theorem third_new (w : World) (o1 o2 o3 : Obj) : (((w.alloc o1).alloc o2).alloc o3).heap[w.heap.size + 1 + 1]? = some o3 := by
  have h := heap_alloc_new ((w.alloc o1).alloc o2) o3
  rwa [show ((w.alloc o1).alloc o2).heap.size = w.heap.size + 1 + 1 by simp] at h
end Go.Proofs.Ytpdcdnklmoaokaa.ConfW

