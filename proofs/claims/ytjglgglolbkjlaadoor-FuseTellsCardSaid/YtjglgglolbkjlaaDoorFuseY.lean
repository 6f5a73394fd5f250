/- The landed fuse: what it tells of errors. The table is laid. -/
import Derived.Test.YtjglgglolbkjlaaDoorFuseU
import Derived.Test.YtjglgglolbkjlaaDoorFuseErr
namespace Go.Proofs.YtjglgglolbkjlaaDoor.FuseW
open Go.RowKit Shell
theorem tell_errno (n : Int) (h0 : -9223372036854775808 ≤ n) (h1 : n ≤ 9223372036854775807) (W : World) (hT : Tab W) : Calls Tryd.prog 31 #[.iface 28 (.int .i64 n)] W fun v W' => v = .returned (.string (FuseTells.err ++ FuseTells.eN n)) ∧ Below W.heap.size W W' :=
  told_errno n (FuseTells.eN n) (by have := en_size n h0 h1; omega) W (fun W1 b => errno_any n h0 h1 W1 (tab_below hT b))
theorem tellsL (w : World) (hT : Tab w) : FuseTells.TellS TV w where
  errno X W n hB hX h0 h1 := ⟨_, _, rfl, fun W1 u => tell_errno n h0 h1 W1 (tab_below hT (hB.trans (u.below hX hB.size)))⟩
  bounds x b h0 h1 := by
    obtain ⟨t, ht, hc⟩ := told_bounds x 0 b h0 h1 (by omega)
    exact ⟨t, ht, fun X W => ⟨_, _, rfl, fun W1 _ => hc W1⟩⟩
  call n W hB h0 h1 := errno_any n h0 h1 W (tab_below hT hB)
end Go.Proofs.YtjglgglolbkjlaaDoor.FuseW
