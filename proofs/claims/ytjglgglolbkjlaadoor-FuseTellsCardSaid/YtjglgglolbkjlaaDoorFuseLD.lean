/- The landed fuse on the Door seat, gathered. -/
import Derived.Test.YtjglgglolbkjlaaDoorFusePg
import Derived.Test.YtjglgglolbkjlaaDoorFuseY
import Derived.Test.YtjglgglolbkjlaaDoorFuseFixed
namespace Go.Proofs.YtjglgglolbkjlaaDoor.FuseW
open Go.RowKit Shell
theorem fixedL (w : World) : Calls Tryd.prog 4 #[] w fun v w' => v = .returned (.bool true) ∧ Below w.heap.size w w' := fixed_any landed landedS landedP w
end Go.Proofs.YtjglgglolbkjlaaDoor.FuseW
