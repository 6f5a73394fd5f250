/- The chapter's examples. -/
import Derived.Test.YtdkmblebkgffgaaDoorCrewE
namespace Go.Proofs.YtdkmblebkgffgaaDoor.CrewW
open Go.RowKit Shell
theorem pv_a : pv ⟨#[50, 44, 48]⟩ = .tuple #[.int .u32 0, .int .i64 2] := by
  have h : prs (bs ⟨#[50, 44, 48]⟩) = (0, 2) := by decide +kernel
  unfold pv; rw [h]; rfl
theorem pv_b : pv ⟨#[45]⟩ = .tuple #[.int .u32 0, .int .i64 0] := by
  have h : prs (bs ⟨#[45]⟩) = (0, 0) := by decide +kernel
  unfold pv; rw [h]; rfl
theorem parse_a (w : World) : Calls Tryd.prog 22 #[.string ⟨#[50, 44, 48]⟩] w fun e w' => e = .returned (.tuple #[.int .u32 0, .int .i64 2]) ∧ Below w.heap.size w w' := by
  rw [← pv_a]; exact parse_any _ w (by decide)
theorem parse_b (w : World) : Calls Tryd.prog 22 #[.string ⟨#[45]⟩] w fun e w' => e = .returned (.tuple #[.int .u32 0, .int .i64 0]) ∧ Below w.heap.size w w' := by
  rw [← pv_b]; exact parse_any _ w (by decide)
theorem members_5 (w : World) : Calls Tryd.prog 12 #[.int .u32 5] w fun e w' => ∃ A c, e = .returned (.slice A 2 c) ∧ Below w.heap.size w w' :=
  (members_any 5 w (by decide)).mono fun e w' ⟨v, he, ho, hb⟩ => by
    obtain ⟨A, c, hv, -⟩ := ho.form
    exact ⟨A, c, by rw [he, hv]; rfl, hb⟩
theorem first_0 (w : World) (hT : Tz w) : Calls Tryd.prog 14 #[.int .u32 0] w fun e w' => e = .returned (.int .i64 (-1)) ∧ w' = w := first_any 0 w (by decide) hT
theorem first_6 (w : World) (hT : Tz w) : Calls Tryd.prog 14 #[.int .u32 6] w fun e w' => e = .returned (.int .i64 1) ∧ w' = w := first_any 6 w (by decide) hT
theorem ps_5 : ps 5 = ⟨#[48, 44, 50]⟩ := by
  have h : prt 5 = [48, 44, 50] := by decide +kernel
  unfold ps; rw [h]; rfl
theorem print_5 (w : World) : Calls Tryd.prog 23 #[.int .u32 5] w fun e w' => e = .returned (.string ⟨#[48, 44, 50]⟩) ∧ Below w.heap.size w w' := by
  rw [← ps_5]; exact print_any 5 w (by decide)
theorem has_a (w : World) : Calls Tryd.prog 15 #[.int .u32 255, .int .i64 7] w fun e w' => e = .returned (.bool false) ∧ w' = w := has_any 255 7 w (by decide)
theorem has_b (w : World) : Calls Tryd.prog 15 #[.int .u32 4, .int .i64 2] w fun e w' => e = .returned (.bool true) ∧ w' = w := has_any 4 2 w (by decide)
theorem count_7 (w : World) : Calls Tryd.prog 13 #[.int .u32 7] w fun e w' => e = .returned (.int .i64 3) ∧ Below w.heap.size w w' := count_any 7 w (by decide)
theorem within_a (w : World) : Calls Tryd.prog 21 #[.int .u32 4, .int .u32 5] w fun e w' => e = .returned (.bool true) ∧ w' = w := within_any 4 5 w (by decide) (by decide)
theorem of_a (w : World) (t : TypeId) : Calls Tryd.prog 17 #[.slice (some ⟨w.heap.size, 0, none⟩) 4 4] (w.alloc (.cells #[.int .i64 0, .int .i64 2, .int .i64 9, .int .i64 2] t)) fun e w' => e = .returned (.int .u32 5) ∧ w' = w.alloc (.cells #[.int .i64 0, .int .i64 2, .int .i64 9, .int .i64 2] t) :=
  of_any _ 4 4 [0, 2, 9, 2] _ (new_cl w .i64 [0, 2, 9, 2] t (by
    intro x hx
    simp only [List.mem_cons, List.not_mem_nil, or_false] at hx
    exact i64_small (by omega) (by omega))) rfl (by decide)
theorem common_a (w : World) (t : TypeId) : Calls Tryd.prog 19 #[.slice (some ⟨w.heap.size, 0, none⟩) 3 3] (w.alloc (.cells #[.int .u32 5, .int .u32 4, .int .u32 6] t)) fun e w' => e = .returned (.int .u32 4) ∧ w' = w.alloc (.cells #[.int .u32 5, .int .u32 4, .int .u32 6] t) :=
  common_any _ 3 3 [5, 4, 6] _ (new_cl w .u32 [5, 4, 6] t (by
    intro x hx
    simp only [List.mem_cons, List.not_mem_nil, or_false] at hx
    rcases hx with rfl | rfl | rfl <;> decide)) rfl (by decide)
theorem al {w w1 : World} (h : Below w.heap.size w w1) (o : Obj) : Below w.heap.size w (w1.alloc o) := h.alloc h.size o
set_option maxHeartbeats 8000000 in
set_option maxRecDepth 100000 in
theorem fixed_any (w : World) (hT : Tz w) : Calls Tryd.prog 9 #[] w fun e w' => e = .returned (.bool true) ∧ Below w.heap.size w w' := by
  have HT := Lib.hid hT
  clear hT
  go_enter Tryd.func9, Tryd.ntmps9
  go_wp2_with fail
  refine (parse_a w).mono ?_
  rintro e w1 ⟨rfl, b1⟩
  have B1 := Lib.hid b1
  clear b1
  go_wp2_with fail
  refine (parse_b w1).mono ?_
  rintro e w2 ⟨rfl, b2⟩
  have B2 := Lib.hid (B1.out.trans (b2.mono B1.out.size))
  clear b2
  go_wp2_with fail
  refine (of_a w2 _).mono ?_
  rintro e w9 ⟨rfl, hw⟩
  obtain rfl := hw.symm
  have B3 := Lib.hid (al B2.out (Obj.cells #[.int .i64 0, .int .i64 2, .int .i64 9, .int .i64 2] 3))
  go_wp2_with fail
  refine (members_5 _).mono ?_
  rintro e w4 ⟨A4, c4, rfl, b4⟩
  have B4 := Lib.hid (B3.out.trans (b4.mono B3.out.size))
  clear b4
  go_wp2_with fail
  refine (first_0 _ (HT.out.below B4.out)).mono ?_
  rintro e w9 ⟨rfl, hw⟩
  obtain rfl := hw.symm
  go_wp2_with fail
  refine (first_6 _ (HT.out.below B4.out)).mono ?_
  rintro e w9 ⟨rfl, hw⟩
  obtain rfl := hw.symm
  go_wp2_with fail
  refine (print_5 _).mono ?_
  rintro e w5 ⟨rfl, b5⟩
  have B5 := Lib.hid (B4.out.trans (b5.mono B4.out.size))
  clear b5
  go_wp2_with fail
  refine (common_a w5 _).mono ?_
  rintro e w9 ⟨rfl, hw⟩
  obtain rfl := hw.symm
  have B6 := Lib.hid (al B5.out (Obj.cells #[.int .u32 5, .int .u32 4, .int .u32 6] 22))
  go_wp2_with fail
  refine (has_a _).mono ?_
  rintro e w9 ⟨rfl, hw⟩
  obtain rfl := hw.symm
  go_wp2_with fail
  refine (has_b _).mono ?_
  rintro e w9 ⟨rfl, hw⟩
  obtain rfl := hw.symm
  go_wp2_with fail
  refine (count_7 _).mono ?_
  rintro e w7 ⟨rfl, b7⟩
  have B7 := Lib.hid (B6.out.trans (b7.mono B6.out.size))
  clear b7
  go_wp2_with fail
  refine (within_a _).mono ?_
  rintro e w9 ⟨rfl, hw⟩
  obtain rfl := hw.symm
  go_wp2
  go_ret
  exact ⟨rfl, B7.out⟩
end Go.Proofs.YtdkmblebkgffgaaDoor.CrewW
