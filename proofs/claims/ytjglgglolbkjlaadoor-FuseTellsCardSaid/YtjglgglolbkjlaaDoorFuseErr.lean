/- api.Errno's Error, walked: over the library's Itoa (its table is laid). -/
import Derived.Test.YtjglgglolbkjlaaDoorFuseTellsW
import Derived.Test.YtjglgglolbkjlaaDoorShelf
import Derived.Lib.ItoaLen
import Derived.Lib.LaidTab
import Derived.Stop.LaidErr
import Derived.Lib.AppendIntMem
namespace Go.Proofs.YtjglgglolbkjlaaDoor.FuseW
open Go.RowKit Shell
/-- The library's table is laid. -/
def Tab (w : World) : Prop := Lib.TabIs Tryd.prog w "internal/strconv.uint64pow10" .u64 Lib.pow10Tab
theorem tab_below {w w1 : World} (h : Tab w) (b : Below w.heap.size w w1) : Tab w1 := by
  unfold Tab Lib.TabIs World.var? at *
  cases hg : Tryd.prog.globalNamed "internal/strconv.uint64pow10" with
  | none => rw [hg] at h; cases h
  | some g =>
    rw [hg] at h
    simp only [Option.bind_some] at h ⊢
    cases hw : w.heap[g]? with
    | none => rw [hw] at h; cases h
    | some o => rw [row_below b hw]; rw [hw] at h; exact h
theorem en_size (n : Int) (h0 : -9223372036854775808 ≤ n) (h1 : n ≤ 9223372036854775807) : (FuseTells.eN n).size ≤ 27 := by
  have := Lib.itoa_length_le n h0 h1
  unfold FuseTells.eN
  rw [ByteArray.size_append]
  show 6 + (Lib.itoa n).toArray.size ≤ 27
  rw [List.size_toArray]
  omega
theorem errno_any (n : Int) (h0 : -9223372036854775808 ≤ n) (h1 : n ≤ 9223372036854775807) (w : World) (ht : Tab w) : Calls Tryd.prog 10 #[.int .i64 n] w fun v w' => v = .returned (.string (FuseTells.eN n)) ∧ Below w.heap.size w w' := by
  have KI := Lib.hid (Tryd.strconv_Itoa n h0 h1 w ht)
  have hc : ¬ 9223372036854775807 < 6 + (ByteArray.mk (Lib.itoa n).toArray).size := by
    have := Lib.itoa_length_le n h0 h1
    show ¬ 9223372036854775807 < 6 + (Lib.itoa n).toArray.size
    rw [List.size_toArray]
    omega
  have HE := Lib.hid (show (⟨#[101, 114, 114, 110, 111, 32]⟩ : ByteArray) ++ ⟨(Lib.itoa n).toArray⟩ = FuseTells.eN n from rfl)
  clear h0 h1 ht
  go_enter Tryd.func10, Tryd.ntmps10
  go_wp2_with fail
  refine KI.out.mono ?_
  rintro v w1 ⟨rfl, k, os, rfl⟩
  go_wp2
  go_ret
  exact ⟨by rw [← HE.out]; rfl, Lib.below_grow _ _ (Nat.le_refl _) _ _⟩
end Go.Proofs.YtjglgglolbkjlaaDoor.FuseW
