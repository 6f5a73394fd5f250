/- The landed fuse, gathered: it is as asked, and the chapter's examples hold. -/
import Derived.Test.YtjglgglolbkjlaaFusePg
import Derived.Test.YtjglgglolbkjlaaFuseFixed
namespace Go.Proofs.Ytjglgglolbkjlaa.FuseW
open Go.RowKit Shell
theorem fixedL (w : World) : Calls Try.prog 7 #[] w fun v w' => v = .returned (.bool true) ∧ Below w.heap.size w w' := fixed_any landed landedS landedP w
end Go.Proofs.Ytjglgglolbkjlaa.FuseW
