/- The document's own Take: a frame put in its place. -/
import Derived.Test.YtmkgnkbcdkcboaaPermE
namespace Go.Proofs.Ytmkgnkbcdkcboaa.PermW
open Go.RowKit Shell
open QueueW hiding al cell_keep
open ClockW (CK CI RV tell tell_iff sh wh)
open FrameW (CV rightC refRightControl_any)
theorem refTake_wrong (m b r t d k f y c l : Int) (A : Option Addr) (n cp : Nat) (hc : 0 ≤ c) (_hi : CI m b r) (w : World) (hr : ¬ rightC k f y c l) : Calls Try.prog 12 #[.slice A n cp, .int .i64 d, RV m b r, .int .i64 t, CV k f y c l] w fun e w' => e = .returned (.tuple #[.slice A n cp, .int .i64 0, .int .i64 1]) ∧ Below w.heap.size w w' := by
  have R := fun W => refRightControl_any k f y c l W hc
  rw [decide_eq_false hr] at R
  have R := Lib.hid R
  have D := fun W => refDue_any m b r t l d _hi W
  unfold RV at *
  have D := Lib.hid D
  clear _hi
  go_enter Try.func12, Try.ntmps12
  go_wp2_with fail
  have B := Lib.hid (al (al (Below.refl w.heap.size w) (.cells #[.int .i64 m, .int .i64 b, .int .i64 r] 33 (0, 0))) (cbx k f y c l))
  have X0 := Lib.hid (row_below (al (Below.refl _ _) (cbx k f y c l)) (heap_alloc_new w (.cells #[.int .i64 m, .int .i64 b, .int .i64 r] 33 (0, 0))))
  have Y0 := Lib.hid (show (World.alloc (w.alloc (.cells #[.int .i64 m, .int .i64 b, .int .i64 r] 33 (0, 0))) (cbx k f y c l)).heap[w.heap.size + 1]? = some (cbx k f y c l) from heap_at (by simp) _)
  generalize (w.alloc (.cells #[.int .i64 m, .int .i64 b, .int .i64 r] 33 (0, 0))).alloc (.cells #[.int .i64 k, .int .i64 f, .int .i64 y, .int .u32 c, .int .i64 l] 37 (0, 0)) = W at *
  obtain ⟨d0, d1, d2, d3, d4⟩ := cells5 Y0.out
  obtain ⟨c0, c1, c2⟩ := cells3 X0.out
  go_wp2_with (go_at_call 28; refine (R.out _).mono ?_; rintro e w1 ⟨rfl, b1⟩; have B1 := Lib.hid b1; clear d0 d1 d2 d3 d4 c0 c1 c2; obtain ⟨d0, d1, d2, d3, d4⟩ := cells5 (row_below b1 Y0.out); obtain ⟨c0, c1, c2⟩ := cells3 (row_below b1 X0.out); clear b1)
  go_ret3
  exact ⟨rfl, B.out.trans (B1.out.mono B.out.size)⟩
theorem refTake_above (m b r t d k f y c l : Int) (A : Option Addr) (n cp : Nat) (hc : 0 ≤ c) (_hi : CI m b r) (w : World) (hr : rightC k f y c l) (hl : d < l) : Calls Try.prog 12 #[.slice A n cp, .int .i64 d, RV m b r, .int .i64 t, CV k f y c l] w fun e w' => e = .returned (.tuple #[.slice A n cp, .int .i64 0, .int .i64 4]) ∧ Below w.heap.size w w' := by
  have R := fun W => refRightControl_any k f y c l W hc
  rw [decide_eq_true hr] at R
  have R := Lib.hid R
  have D := fun W => refDue_any m b r t l d _hi W
  unfold RV at *
  have D := Lib.hid D
  clear _hi
  go_enter Try.func12, Try.ntmps12
  go_wp2_with fail
  have B := Lib.hid (al (al (Below.refl w.heap.size w) (.cells #[.int .i64 m, .int .i64 b, .int .i64 r] 33 (0, 0))) (cbx k f y c l))
  have X0 := Lib.hid (row_below (al (Below.refl _ _) (cbx k f y c l)) (heap_alloc_new w (.cells #[.int .i64 m, .int .i64 b, .int .i64 r] 33 (0, 0))))
  have Y0 := Lib.hid (show (World.alloc (w.alloc (.cells #[.int .i64 m, .int .i64 b, .int .i64 r] 33 (0, 0))) (cbx k f y c l)).heap[w.heap.size + 1]? = some (cbx k f y c l) from heap_at (by simp) _)
  generalize (w.alloc (.cells #[.int .i64 m, .int .i64 b, .int .i64 r] 33 (0, 0))).alloc (.cells #[.int .i64 k, .int .i64 f, .int .i64 y, .int .u32 c, .int .i64 l] 37 (0, 0)) = W at *
  obtain ⟨d0, d1, d2, d3, d4⟩ := cells5 Y0.out
  obtain ⟨c0, c1, c2⟩ := cells3 X0.out
  go_wp2_with (go_at_call 28; refine (R.out _).mono ?_; rintro e w1 ⟨rfl, b1⟩; have B1 := Lib.hid b1; clear d0 d1 d2 d3 d4 c0 c1 c2; obtain ⟨d0, d1, d2, d3, d4⟩ := cells5 (row_below b1 Y0.out); obtain ⟨c0, c1, c2⟩ := cells3 (row_below b1 X0.out); clear b1)
  go_ret3
  exact ⟨rfl, B.out.trans (B1.out.mono B.out.size)⟩
theorem refTake_err (m b r t d k f y c l : Int) (A : Option Addr) (n cp : Nat) (hc : 0 ≤ c) (_hi : CI m b r) (w : World) (hr : rightC k f y c l) (hl : ¬ d < l) (a0 a1 : Int) (ha : du m b r t l d (tell m t) = (a0, a1)) (h1 : ¬ a1 = 0) : Calls Try.prog 12 #[.slice A n cp, .int .i64 d, RV m b r, .int .i64 t, CV k f y c l] w fun e w' => e = .returned (.tuple #[.slice A n cp, .int .i64 0, .int .i64 a1]) ∧ Below w.heap.size w w' := by
  have R := fun W => refRightControl_any k f y c l W hc
  rw [decide_eq_true hr] at R
  have R := Lib.hid R
  have D := fun W => refDue_any m b r t l d _hi W
  rw [ha] at D
  unfold RV at *
  have D := Lib.hid D
  clear _hi
  go_enter Try.func12, Try.ntmps12
  go_wp2_with fail
  have B := Lib.hid (al (al (Below.refl w.heap.size w) (.cells #[.int .i64 m, .int .i64 b, .int .i64 r] 33 (0, 0))) (cbx k f y c l))
  have X0 := Lib.hid (row_below (al (Below.refl _ _) (cbx k f y c l)) (heap_alloc_new w (.cells #[.int .i64 m, .int .i64 b, .int .i64 r] 33 (0, 0))))
  have Y0 := Lib.hid (show (World.alloc (w.alloc (.cells #[.int .i64 m, .int .i64 b, .int .i64 r] 33 (0, 0))) (cbx k f y c l)).heap[w.heap.size + 1]? = some (cbx k f y c l) from heap_at (by simp) _)
  generalize (w.alloc (.cells #[.int .i64 m, .int .i64 b, .int .i64 r] 33 (0, 0))).alloc (.cells #[.int .i64 k, .int .i64 f, .int .i64 y, .int .u32 c, .int .i64 l] 37 (0, 0)) = W at *
  obtain ⟨d0, d1, d2, d3, d4⟩ := cells5 Y0.out
  obtain ⟨c0, c1, c2⟩ := cells3 X0.out
  go_wp2_with (go_at_call 28; refine (R.out _).mono ?_; rintro e w1 ⟨rfl, b1⟩; have B1 := Lib.hid b1; clear d0 d1 d2 d3 d4 c0 c1 c2; obtain ⟨d0, d1, d2, d3, d4⟩ := cells5 (row_below b1 Y0.out); obtain ⟨c0, c1, c2⟩ := cells3 (row_below b1 X0.out); clear b1)
  refine (D.out _).mono ?_
  rintro e w2 ⟨rfl, b2⟩
  have B2 := Lib.hid b2
  clear b2 d0 d1 d2 d3 d4 c0 c1 c2
  go_wp2_with fail
  go_ret3
  exact ⟨rfl, (B.out.trans (B1.out.mono B.out.size)).trans (B2.out.mono (Nat.le_trans B.out.size B1.out.size))⟩
theorem refTake_full (m b r t d k f y c l : Int) (A : Option Addr) (n cp : Nat) (hc : 0 ≤ c) (_hi : CI m b r) (w : World) (hr : rightC k f y c l) (hl : ¬ d < l) (a0 : Int) (ha : du m b r t l d (tell m t) = (a0, 0)) (hn : n = 64) : Calls Try.prog 12 #[.slice A n cp, .int .i64 d, RV m b r, .int .i64 t, CV k f y c l] w fun e w' => e = .returned (.tuple #[.slice A n cp, .int .i64 0, .int .i64 6]) ∧ Below w.heap.size w w' := by
  subst hn
  have R := fun W => refRightControl_any k f y c l W hc
  rw [decide_eq_true hr] at R
  have R := Lib.hid R
  have D := fun W => refDue_any m b r t l d _hi W
  rw [ha] at D
  unfold RV at *
  have D := Lib.hid D
  clear _hi
  go_enter Try.func12, Try.ntmps12
  go_wp2_with fail
  have B := Lib.hid (al (al (Below.refl w.heap.size w) (.cells #[.int .i64 m, .int .i64 b, .int .i64 r] 33 (0, 0))) (cbx k f y c l))
  have X0 := Lib.hid (row_below (al (Below.refl _ _) (cbx k f y c l)) (heap_alloc_new w (.cells #[.int .i64 m, .int .i64 b, .int .i64 r] 33 (0, 0))))
  have Y0 := Lib.hid (show (World.alloc (w.alloc (.cells #[.int .i64 m, .int .i64 b, .int .i64 r] 33 (0, 0))) (cbx k f y c l)).heap[w.heap.size + 1]? = some (cbx k f y c l) from heap_at (by simp) _)
  generalize (w.alloc (.cells #[.int .i64 m, .int .i64 b, .int .i64 r] 33 (0, 0))).alloc (.cells #[.int .i64 k, .int .i64 f, .int .i64 y, .int .u32 c, .int .i64 l] 37 (0, 0)) = W at *
  obtain ⟨d0, d1, d2, d3, d4⟩ := cells5 Y0.out
  obtain ⟨c0, c1, c2⟩ := cells3 X0.out
  go_wp2_with (go_at_call 28; refine (R.out _).mono ?_; rintro e w1 ⟨rfl, b1⟩; have B1 := Lib.hid b1; clear d0 d1 d2 d3 d4 c0 c1 c2; obtain ⟨d0, d1, d2, d3, d4⟩ := cells5 (row_below b1 Y0.out); obtain ⟨c0, c1, c2⟩ := cells3 (row_below b1 X0.out); clear b1)
  refine (D.out _).mono ?_
  rintro e w2 ⟨rfl, b2⟩
  have B2 := Lib.hid b2
  clear b2 d0 d1 d2 d3 d4 c0 c1 c2
  go_wp2_with fail
  go_ret3
  exact ⟨rfl, (B.out.trans (B1.out.mono B.out.size)).trans (B2.out.mono (Nat.le_trans B.out.size B1.out.size))⟩
end Go.Proofs.Ytmkgnkbcdkcboaa.PermW
