/- tocsinlaw02.fixed: the chapter's examples. -/
import Derived.Test.YtkbkjbnfkgncdaaDoorTickText
import Derived.BigRegion
import Derived.Deep.QuietTactic
namespace Go.Proofs.YtkbkjbnfkgncdaaDoor.TickW
open Go.RowKit
theorem ansV_in (z : Int) (h0 : -9223372036854775808 ≤ z) (h1 : z ≤ 9223372036854775807) : ansV z = .tuple #[.int .i64 z, .int .i64 0] := by
  unfold ansV; rw [if_pos ⟨h0, h1⟩]
theorem ansV_out (z : Int) (h : z < -9223372036854775808 ∨ 9223372036854775807 < z) : ansV z = .tuple #[.int .i64 0, .int .i64 4] := by
  unfold ansV; rw [if_neg (by omega)]
theorem c_add (w : World) : Calls Tryd.prog 11 #[.int .i64 9223372036854775807, .int .i64 1] w fun e w' => e = .returned (.tuple #[.int .i64 0, .int .i64 4]) ∧ Below w.heap.size w w' := by
  rw [← ansV_out (9223372036854775807 + 1) (by decide)]
  exact add_any _ _ (by decide) (by decide) (by decide) (by decide) w
theorem c_md1 (w : World) : Calls Tryd.prog 19 #[.int .i64 (-7), .int .i64 1, .int .i64 2] w fun e w' => e = .returned (.tuple #[.int .i64 (-4), .int .i64 0]) ∧ Below w.heap.size w w' := by
  have h := muldiv_any (-7) 1 2 (by decide) (by decide) (by decide) (by decide) (by decide) (by decide) w
  rw [show (-7 : Int) * 1 / 2 = -4 by decide, ansV_in (-4) (by decide) (by decide)] at h
  exact h
theorem c_md2 (w : World) : Calls Tryd.prog 19 #[.int .i64 4611686018427387904, .int .i64 4, .int .i64 8] w fun e w' => e = .returned (.tuple #[.int .i64 2305843009213693952, .int .i64 0]) ∧ Below w.heap.size w w' := by
  have h := muldiv_any 4611686018427387904 4 8 (by decide) (by decide) (by decide) (by decide) (by decide) (by decide) w
  rw [show (4611686018427387904 : Int) * 4 / 8 = 2305843009213693952 by decide, ansV_in 2305843009213693952 (by decide) (by decide)] at h
  exact h
theorem c_sub (w : World) : Calls Tryd.prog 12 #[.int .i64 3, .int .i64 5] w fun e w' => e = .returned (.tuple #[.int .i64 (-2), .int .i64 0]) ∧ Below w.heap.size w w' := by
  have h := sub_any 3 5 (by decide) (by decide) (by decide) (by decide) w
  rw [show (3 : Int) - 5 = -2 by decide, ansV_in (-2) (by decide) (by decide)] at h
  exact h
theorem c_mul (w : World) : Calls Tryd.prog 13 #[.int .i64 (-3), .int .i64 5] w fun e w' => e = .returned (.tuple #[.int .i64 (-15), .int .i64 0]) ∧ Below w.heap.size w w' := by
  have h := mul_any (-3) 5 (by decide) (by decide) (by decide) (by decide) w
  rw [show (-3 : Int) * 5 = -15 by decide, ansV_in (-15) (by decide) (by decide)] at h
  exact h
theorem c_sum (w : World) : Calls Tryd.prog 23 #[.slice (some ⟨w.heap.size, 0, none⟩) 3 3] (w.alloc (.cells #[.int .i64 9223372036854775807, .int .i64 1, .int .i64 (-1)] 2)) fun e w' => e = .returned (.tuple #[.int .i64 9223372036854775807, .int .i64 0]) ∧ Below w.heap.size w w' := by
  have r := heap_alloc_new w (Obj.cells #[.int .i64 9223372036854775807, .int .i64 1, .int .i64 (-1)] 2)
  have hI : IL (w.alloc (.cells #[.int .i64 9223372036854775807, .int .i64 1, .int .i64 (-1)] 2)) (some ⟨w.heap.size, 0, none⟩) [9223372036854775807, 1, -1] := by
    intro k x hx
    refine ⟨_, rfl, ?_⟩
    have hk : k < 3 := by
      rcases Nat.lt_or_ge k 3 with h | h
      · exact h
      · rw [List.getElem?_eq_none (by simpa using h)] at hx; cases hx
    have ha : (⟨w.heap.size, 0, none⟩ : Addr).add k = ⟨w.heap.size, k, none⟩ := by unfold Addr.add; split <;> simp_all
    rw [ha, cell_of_row _ _ _ _ _ _ r]
    rcases (show k = 0 ∨ k = 1 ∨ k = 2 by omega) with rfl | rfl | rfl <;> cases hx <;> exact ⟨rfl, by decide, by decide⟩
  have h := sum_any _ 3 _ _ hI (by decide)
  rw [show ([9223372036854775807, 1, -1] : List Int).sum = 9223372036854775807 by decide, ansV_in 9223372036854775807 (by decide) (by decide)] at h
  refine h.mono ?_
  rintro e w' ⟨rfl, hb⟩
  exact ⟨rfl, (al (Below.refl _ _) _).trans (hb.mono (by simp))⟩
theorem c_parse1 (w : World) (hL : Laid w) : Calls Tryd.prog 26 #[.string ⟨#[45, 57, 50, 50, 51, 51, 55, 50, 48, 51, 54, 56, 53, 52, 55, 55, 53, 56, 48, 56]⟩] w fun e w' => e = .returned (.tuple #[.int .i64 (-9223372036854775808), .int .i64 0]) ∧ Below w.heap.size w w' := by
  have h := parse_any ⟨#[45, 57, 50, 50, 51, 51, 55, 50, 48, 51, 54, 56, 53, 52, 55, 55, 53, 56, 48, 56]⟩ (by decide) w hL
  rw [show parseN ⟨#[45, 57, 50, 50, 51, 51, 55, 50, 48, 51, 54, 56, 53, 52, 55, 55, 53, 56, 48, 56]⟩ = some (-9223372036854775808) by decide +kernel] at h
  exact h
theorem c_parse2 (w : World) (hL : Laid w) : Calls Tryd.prog 26 #[.string ⟨#[45, 48]⟩] w fun e w' => e = .returned (.tuple #[.int .i64 0, .int .i64 2]) ∧ Below w.heap.size w w' := by
  have h := parse_any ⟨#[45, 48]⟩ (by decide) w hL
  rw [show parseN ⟨#[45, 48]⟩ = none by decide +kernel] at h
  exact h
theorem c_half1 (w : World) : Calls Tryd.prog 21 #[.int .i64 9223372036854775807, .int .i64 9223372036854775805] w fun e w' => e = .returned (.int .i64 9223372036854775806) ∧ w = w' := by
  have h := half_any 9223372036854775807 9223372036854775805 (by decide) (by decide) (by decide) (by decide) w
  rw [show ((9223372036854775807 : Int) + 9223372036854775805) / 2 = 9223372036854775806 by decide] at h
  exact h
theorem c_half2 (w : World) : Calls Tryd.prog 21 #[.int .i64 (-1), .int .i64 0] w fun e w' => e = .returned (.int .i64 (-1)) ∧ w = w' := by
  have h := half_any (-1) 0 (by decide) (by decide) (by decide) (by decide) w
  rw [show ((-1 : Int) + 0) / 2 = -1 by decide] at h
  exact h
theorem c_print (w : World) (hL : Laid w) : Calls Tryd.prog 25 #[.int .i64 (-7)] w fun e w' => e = .returned (.string ⟨#[45, 55]⟩) ∧ Below w.heap.size w w' := by
  have h := print_any (-7) (by decide) (by decide) w hL
  rw [show itoaS (-7) = ⟨#[45, 55]⟩ by decide +kernel] at h
  exact h
theorem c_clamp (w : World) : Calls Tryd.prog 29 #[.int .i64 9, .int .i64 1, .int .i64 5] w fun e w' => e = .returned (.int .i64 5) ∧ w = w' :=
  clamp_any 9 1 5 w
set_option maxHeartbeats 2000000 in
set_option maxRecDepth 100000 in
theorem fixed_any (w : World) (hL : Laid w) : Calls Tryd.prog 10 #[] w fun e w' => e = .returned (.bool true) ∧ Below w.heap.size w w' := by
  have HL := Lib.hid hL
  clear hL
  go_enter Tryd.func10, Tryd.ntmps10
  go_wp2_with fail
  refine (c_add _).mono ?_
  rintro e w1 ⟨rfl, b1⟩
  go_wp2_with fail
  refine (c_md1 _).mono ?_
  rintro e w2 ⟨rfl, b2⟩
  have B2 := Lib.hid (b1.trans (b2.mono b1.size)); clear b1 b2
  go_wp2_with fail
  refine (c_md2 _).mono ?_
  rintro e w3 ⟨rfl, b3⟩
  have B3 := Lib.hid (B2.out.trans (b3.mono B2.out.size)); clear b3
  go_wp2_with fail
  refine (c_sum _).mono ?_
  rintro e w4 ⟨rfl, b4⟩
  have B4 := Lib.hid (B3.out.trans (b4.mono B3.out.size)); clear b4
  go_wp2_with fail
  refine (c_sub _).mono ?_
  rintro e w5 ⟨rfl, b5⟩
  have B5 := Lib.hid (B4.out.trans (b5.mono B4.out.size)); clear b5
  go_wp2_with fail
  refine (c_mul _).mono ?_
  rintro e w6 ⟨rfl, b6⟩
  have B6 := Lib.hid (B5.out.trans (b6.mono B5.out.size)); clear b6
  go_wp2_with fail
  refine (c_parse1 _ (HL.out.below B6.out)).mono ?_
  rintro e w7 ⟨rfl, b7⟩
  have B7 := Lib.hid (B6.out.trans (b7.mono B6.out.size)); clear b7
  go_wp2_with fail
  refine (c_parse2 _ (HL.out.below B7.out)).mono ?_
  rintro e w8 ⟨rfl, b8⟩
  have B8 := Lib.hid (B7.out.trans (b8.mono B7.out.size)); clear b8
  go_wp2_with fail
  refine (c_half1 _).mono ?_
  rintro e w9 ⟨rfl, rfl⟩
  go_wp2_with fail
  refine (c_half2 _).mono ?_
  rintro e w9 ⟨rfl, rfl⟩
  go_wp2_with fail
  refine (c_print _ (HL.out.below B8.out)).mono ?_
  rintro e w9 ⟨rfl, b9⟩
  have B9 := Lib.hid (B8.out.trans (b9.mono B8.out.size)); clear b9
  go_wp2_with fail
  refine (c_clamp _).mono ?_
  rintro e w10 ⟨rfl, rfl⟩
  go_wp2
  go_ret
  exact ⟨rfl, B9.out⟩
end Go.Proofs.YtkbkjbnfkgncdaaDoor.TickW
