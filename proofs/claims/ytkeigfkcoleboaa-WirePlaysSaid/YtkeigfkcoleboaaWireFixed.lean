/- The chapter's examples. -/
import Derived.Test.YtkeigfkcoleboaaWireC
import Derived.Test.YtkeigfkcoleboaaWireD
namespace Go.Proofs.Ytkeigfkcoleboaa.WireW
open Go.RowKit FrameW Shell
theorem send0 (k : Nat) (d b o t n y z : Int) (w : World) (h : WK w k d b o) (hd : okD d = true) (hs : sndE b o t n = 0) (hy : t + tim n = y) (hz : y + d = z) :
    Calls Try.prog 11 #[.pointer (some ⟨k, 0, none⟩), .int .i64 t, .int .i64 n] w fun e w' => e = .returned (.tuple #[.int .i64 z, .int .i64 0]) ∧ WK w' k d t y ∧ Kept k w w' := by
  subst hz; subst hy
  exact send_ok k d b o t n w h hd hs
theorem free0 (k : Nat) (d b o t z : Int) (w : World) (h : WK w k d b o) (ht : okT t = true) (hz : fr b o t = z) :
    Calls Try.prog 13 #[.pointer (some ⟨k, 0, none⟩), .int .i64 t] w fun e w' => e = .returned (.tuple #[.int .i64 z, .int .i64 0]) ∧ w = w' := hz ▸ free_ok k d b o t w h ht
theorem clear0 (w : World) :
    Calls Try.prog 17 #[.agg #[.int .i64 0, .int .i64 0, .int .i64 0, .int .u32 0, .int .i64 5], .int .i64 7] w fun e w' => e = .returned (.tuple #[.agg #[.int .i64 0, .int .i64 0, .int .i64 0, .int .u32 0, .int .i64 12], .int .i64 0]) ∧ Below w.heap.size w w' := clear_ok 0 0 0 0 5 7 w (by decide)
set_option maxHeartbeats 2000000 in
set_option maxRecDepth 100000 in
theorem fixed_any (w : World) : Calls Try.prog 8 #[] w fun e w' => e = .returned (.bool true) ∧ Below w.heap.size w w' := by
  go_enter Try.func8, Try.ntmps8
  go_wp2_with fail
  refine (new_ok 100 (by decide) _).mono ?_
  rintro e w1 ⟨rfl, c1, b1⟩
  have C1 := Lib.hid c1
  have B1 := Lib.hid b1
  generalize hk : w.heap.size = k at *
  clear c1 b1
  go_wp2_with fail
  refine (new_bad (-1) (by decide) _).mono ?_
  rintro e w' ⟨rfl, rfl⟩
  go_wp2_with fail
  refine (send0 k 100 0 0 1000 64 1512 1612 _ C1.out (by decide) (by decide) (by decide) (by decide)).mono ?_
  rintro e w2 ⟨rfl, c2, b2⟩
  have C2 := Lib.hid c2
  have B2 := Lib.hid (B1.out.trans (b2.below (Nat.le_refl _) (Nat.le_of_lt C1.out.lt)))
  clear b2 c2 C1 B1
  go_wp2_with fail
  refine (send_no k 100 1000 1512 1200 64 _ C2.out 7 (by decide) (by decide)).mono ?_
  rintro e w' ⟨rfl, rfl⟩
  go_wp2_with fail
  refine (free0 k 100 1000 1512 1200 1512 _ C2.out (by decide) (by decide)).mono ?_
  rintro e w' ⟨rfl, rfl⟩
  go_wp2_with fail
  refine (send0 k 100 1000 1512 1512 1518 13656 13756 _ C2.out (by decide) (by decide) (by decide) (by decide)).mono ?_
  rintro e w3 ⟨rfl, c3, b3⟩
  have C3 := Lib.hid c3
  have B3 := Lib.hid (B2.out.trans (b3.below (Nat.le_refl _) (Nat.le_of_lt C2.out.lt)))
  clear b3 c3 C2 B2
  go_wp2_with fail
  refine (cut_yes k 100 1512 13656 2000 _ C3.out (by decide)).mono ?_
  rintro e w4 ⟨rfl, c4, b4⟩
  have C4 := Lib.hid c4
  have B4 := Lib.hid (B3.out.trans (b4.below (Nat.le_refl _) (Nat.le_of_lt C3.out.lt)))
  clear b4 c4 C3 B3
  go_wp2_with fail
  refine (send_no k 100 1512 2000 1400 64 _ C4.out 1 (by decide) (by decide)).mono ?_
  rintro e w' ⟨rfl, rfl⟩
  go_wp2_with fail
  refine (clear0 _).mono ?_
  rintro e w5 ⟨rfl, b5⟩
  have B5 := Lib.hid (B4.out.trans (b5.mono (Nat.le_of_lt C4.out.lt)))
  clear b5
  go_wp2
  go_ret
  exact ⟨rfl, by rw [hk]; exact (B5.out.alloc (by have := B5.out.size; have := C4.out.lt; have := B4.out.size; omega) _)⟩
end Go.Proofs.Ytkeigfkcoleboaa.WireW
