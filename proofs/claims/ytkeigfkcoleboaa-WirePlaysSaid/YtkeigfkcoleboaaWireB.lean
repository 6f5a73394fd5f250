/- Package wire's New, Send, Free and Cut; the document's own Send. -/
import Derived.Test.YtkeigfkcoleboaaWireA
namespace Go.Proofs.Ytkeigfkcoleboaa.WireW
open Go.RowKit FrameW Shell
/-- What Send tells of a wire whose last frame went from b to o: 0, 1 or 7. -/
def sndE (b o t n : Int) : Int := if okT t && okS n then (if bsy b o t then 7 else if t < b then 1 else 0) else 1
theorem snd_zero {b o t n : Int} (h : sndE b o t n = 0) : (0 ≤ t ∧ t ≤ 1125899906842624) ∧ (64 ≤ n ∧ n ≤ 1518) ∧ bsy b o t = false ∧ b ≤ t := by
  unfold sndE at h
  cases h1 : okT t <;> cases h2 : okS n <;> cases h3 : bsy b o t <;> simp only [h1, h2, h3, Bool.and_true, Bool.and_false, if_true, if_false, Bool.false_eq_true] at h
  all_goals try omega
  refine ⟨okT_iff.1 h1, okS_iff.1 h2, rfl, ?_⟩
  split at h <;> omega
theorem new_ok (d : Int) (h : okD d = true) (w : World) :
    Calls Try.prog 9 #[.int .i64 d] w fun e w' => e = .returned (.tuple #[.pointer (some ⟨w.heap.size, 0, none⟩), .int .i64 0]) ∧ WK w' w.heap.size d 0 0 ∧ Below w.heap.size w w' := by
  unfold okD at h
  go_enter Try.func9, Try.ntmps9
  go_wp2_with (first
    | (go_at_call 18; refine (between_any _ _ _ _).mono ?_; rintro e w' ⟨rfl, rfl⟩; rw [h]))
  go_ret2
  exact ⟨rfl, heap_alloc_new _ _, (Below.refl _ _).alloc (Nat.le_refl _) _⟩
theorem new_bad (d : Int) (h : okD d = false) (w : World) :
    Calls Try.prog 9 #[.int .i64 d] w fun e w' => e = .returned (.tuple #[.pointer none, .int .i64 1]) ∧ w = w' := by
  unfold okD at h
  go_enter Try.func9, Try.ntmps9
  go_wp2_with (first
    | (go_at_call 18; refine (between_any _ _ _ _).mono ?_; rintro e w' ⟨rfl, rfl⟩; rw [h]))
  go_ret2
  exact ⟨rfl, rfl⟩
theorem set2 {w : World} {k : Nat} {d b o : Int} (h : WK w k d b o) (y z : Int) : WK ((w.setCell ⟨k, 1, none⟩ (.int .i64 y)).setCell ⟨k, 2, none⟩ (.int .i64 z)) k d y z :=
  heap_setCell_same _ k 2 _ _ _ (heap_setCell_same w k 1 _ _ _ h)
theorem send_no (k : Nat) (d b o t n : Int) (w : World) (h : WK w k d b o) (z : Int) (hz : sndE b o t n = z) (h0 : z ≠ 0) :
    Calls Try.prog 11 #[.pointer (some ⟨k, 0, none⟩), .int .i64 t, .int .i64 n] w fun e w' => e = .returned (.tuple #[.int .i64 0, .int .i64 z]) ∧ w = w' := by
  obtain ⟨c0, c1, c2⟩ := h.cells
  have HW := Lib.hid h
  unfold sndE okS at hz
  cases h1 : okT t with
  | false =>
    rw [h1] at hz
    simp only [Bool.false_and, Bool.false_eq_true, if_false] at hz
    subst hz
    cases h2 : inn n 64 1518 with
    | _ =>
      go_enter Try.func11, Try.ntmps11
      go_wp2_with (first
        | (go_at_call 19; refine (isTime_any _ _).mono ?_; rintro e w' ⟨rfl, rfl⟩; rw [h1])
        | (go_at_call 20; refine (betweenN_any _ _ _ _).mono ?_; rintro e w' ⟨rfl, rfl⟩; rw [h2]))
      go_ret2
      exact ⟨rfl, rfl⟩
  | true =>
    rw [h1, Bool.true_and] at hz
    cases h2 : inn n 64 1518 with
    | false =>
      rw [h2] at hz
      simp only [Bool.false_eq_true, if_false] at hz
      subst hz
      go_enter Try.func11, Try.ntmps11
      go_wp2_with (first
        | (go_at_call 19; refine (isTime_any _ _).mono ?_; rintro e w' ⟨rfl, rfl⟩; rw [h1])
        | (go_at_call 20; refine (betweenN_any _ _ _ _).mono ?_; rintro e w' ⟨rfl, rfl⟩; rw [h2]))
      go_ret2
      exact ⟨rfl, rfl⟩
    | true =>
      rw [h2, if_pos rfl] at hz
      cases h3 : bsy b o t with
      | true =>
        rw [h3, if_pos rfl] at hz
        subst hz
        go_enter Try.func11, Try.ntmps11
        go_wp2_with (first
          | (go_at_call 19; refine (isTime_any _ _).mono ?_; rintro e w' ⟨rfl, rfl⟩; rw [h1])
          | (go_at_call 20; refine (betweenN_any _ _ _ _).mono ?_; rintro e w' ⟨rfl, rfl⟩; rw [h2])
          | (go_at_call 21; refine (busy_any k d b o _ _ HW.out).mono ?_; rintro e w' ⟨rfl, rfl⟩; rw [h3]))
        go_ret2
        exact ⟨rfl, rfl⟩
      | false =>
        rw [h3] at hz
        simp only [Bool.false_eq_true, if_false] at hz
        have h4 : t < b := by
          by_cases h4 : t < b
          · exact h4
          · rw [if_neg h4] at hz
            omega
        rw [if_pos h4] at hz
        subst hz
        go_enter Try.func11, Try.ntmps11
        go_wp2_with (first
          | (go_at_call 19; refine (isTime_any _ _).mono ?_; rintro e w' ⟨rfl, rfl⟩; rw [h1])
          | (go_at_call 20; refine (betweenN_any _ _ _ _).mono ?_; rintro e w' ⟨rfl, rfl⟩; rw [h2])
          | (go_at_call 21; refine (busy_any k d b o _ _ HW.out).mono ?_; rintro e w' ⟨rfl, rfl⟩; rw [h3]))
        go_ret2
        exact ⟨rfl, rfl⟩
theorem send_ok (k : Nat) (d b o t n : Int) (w : World) (h : WK w k d b o) (hd : okD d = true) (hz : sndE b o t n = 0) :
    Calls Try.prog 11 #[.pointer (some ⟨k, 0, none⟩), .int .i64 t, .int .i64 n] w fun e w' => e = .returned (.tuple #[.int .i64 (t + tim n + d), .int .i64 0]) ∧ WK w' k d t (t + tim n) ∧ Kept k w w' := by
  obtain ⟨c0, c1, c2⟩ := h.cells
  obtain ⟨f0, f1, f2⟩ := frozen3 h
  obtain ⟨q1, q2, h3, h4⟩ := snd_zero hz
  have h1 := okT_iff.2 q1
  have h2 := okS_iff.2 q2
  unfold okS at h2
  have hd' := okD_iff.1 hd
  have ht := tim_bounds n
  have e1 : wrap64 (t + tim n) = t + tim n := by unfold wrap64; omega
  have e2 : wrap64 (t + tim n + d) = t + tim n + d := by unfold wrap64; omega
  have E1 := Lib.hid e1
  have E2 := Lib.hid e2
  have P := set2 h t (t + tim n)
  have Q := kept2 w k 1 2 (.int .i64 t) (.int .i64 (t + tim n))
  have HW := Lib.hid h
  have HP := Lib.hid P
  have HQ := Lib.hid Q
  clear e1 e2 hz q1 q2 hd hd' ht P Q
  go_enter Try.func11, Try.ntmps11
  go_wp2_with (first
    | (go_at_call 19; refine (isTime_any _ _).mono ?_; rintro e w' ⟨rfl, rfl⟩; rw [h1])
    | (go_at_call 20; refine (betweenN_any _ _ _ _).mono ?_; rintro e w' ⟨rfl, rfl⟩; rw [h2])
    | (go_at_call 21; refine (busy_any k d b o _ _ HW.out).mono ?_; rintro e w' ⟨rfl, rfl⟩; rw [h3])
    | (go_at_call 16; refine (time_any _ _).mono ?_; rintro e w' ⟨rfl, hw⟩; obtain rfl := hw.symm))
  rw [E1.out]
  obtain ⟨g0, g1, g2⟩ := HP.out.cells
  clear c0 c1 c2 f0 f1 f2
  go_region
  go_wp2
  go_ret2
  exact ⟨by show Ending.returned (.tuple #[.int .i64 (wrap64 (t + tim n + d)), .int .i64 0]) = _; rw [E2.out], HP.out, Kept.drew HQ.out⟩
theorem send_nil (t n : Int) (w : World) :
    Calls Try.prog 11 #[.pointer none, .int .i64 t, .int .i64 n] w fun e w' => e = .returned (.tuple #[.int .i64 0, .int .i64 1]) ∧ w = w' := by
  cases h2 : inn n 64 1518 with
  | _ =>
    go_enter Try.func11, Try.ntmps11
    go_wp2
    go_ret2
    exact ⟨rfl, rfl⟩
theorem free_bad (k : Nat) (t : Int) (ht : okT t = false) (w : World) :
    Calls Try.prog 13 #[.pointer (some ⟨k, 0, none⟩), .int .i64 t] w fun e w' => e = .returned (.tuple #[.int .i64 0, .int .i64 1]) ∧ w = w' := by
  go_enter Try.func13, Try.ntmps13
  go_wp2_with (first
    | (go_at_call 19; refine (isTime_any _ _).mono ?_; rintro e w' ⟨rfl, rfl⟩; rw [ht]))
  go_ret2
  exact ⟨rfl, rfl⟩
theorem free_nil (t : Int) (w : World) :
    Calls Try.prog 13 #[.pointer none, .int .i64 t] w fun e w' => e = .returned (.tuple #[.int .i64 0, .int .i64 1]) ∧ w = w' := by
  go_enter Try.func13, Try.ntmps13
  go_wp2
  go_ret2
  exact ⟨rfl, rfl⟩
/-- When a wire whose last frame went from b to o isn't busy. -/
def fr (b o t : Int) : Int := if bsy b o t then o else t
theorem free_ok (k : Nat) (d b o t : Int) (w : World) (h : WK w k d b o) (ht : okT t = true) :
    Calls Try.prog 13 #[.pointer (some ⟨k, 0, none⟩), .int .i64 t] w fun e w' => e = .returned (.tuple #[.int .i64 (fr b o t), .int .i64 0]) ∧ w = w' := by
  obtain ⟨c0, c1, c2⟩ := h.cells
  have HW := Lib.hid h
  unfold fr
  cases h3 : bsy b o t with
  | true =>
    rw [if_pos rfl]
    go_enter Try.func13, Try.ntmps13
    go_wp2_with (first
      | (go_at_call 19; refine (isTime_any _ _).mono ?_; rintro e w' ⟨rfl, rfl⟩; rw [ht])
      | (go_at_call 21; refine (busy_any k d b o _ _ HW.out).mono ?_; rintro e w' ⟨rfl, rfl⟩; rw [h3]))
    go_ret2
    exact ⟨rfl, rfl⟩
  | false =>
    rw [if_neg (by simp)]
    go_enter Try.func13, Try.ntmps13
    go_wp2_with (first
      | (go_at_call 19; refine (isTime_any _ _).mono ?_; rintro e w' ⟨rfl, rfl⟩; rw [ht])
      | (go_at_call 21; refine (busy_any k d b o _ _ HW.out).mono ?_; rintro e w' ⟨rfl, rfl⟩; rw [h3]))
    go_ret2
    exact ⟨rfl, rfl⟩
theorem cut_no (k : Nat) (d b o t : Int) (w : World) (h : WK w k d b o) (h3 : bsy b o t = false) :
    Calls Try.prog 15 #[.pointer (some ⟨k, 0, none⟩), .int .i64 t] w fun e w' => e = .returned (.bool false) ∧ w = w' := by
  have HW := Lib.hid h
  go_enter Try.func15, Try.ntmps15
  go_wp2_with (first
    | (go_at_call 21; refine (busy_any k d b o _ _ HW.out).mono ?_; rintro e w' ⟨rfl, rfl⟩; rw [h3]))
  go_ret
  exact ⟨rfl, rfl⟩
theorem cut_yes (k : Nat) (d b o t : Int) (w : World) (h : WK w k d b o) (h3 : bsy b o t = true) :
    Calls Try.prog 15 #[.pointer (some ⟨k, 0, none⟩), .int .i64 t] w fun e w' => e = .returned (.bool true) ∧ WK w' k d b t ∧ Kept k w w' := by
  obtain ⟨c0, c1, c2⟩ := h.cells
  obtain ⟨f0, f1, f2⟩ := frozen3 h
  have HW := Lib.hid h
  go_enter Try.func15, Try.ntmps15
  go_wp2_with (first
    | (go_at_call 21; refine (busy_any k d b o _ _ HW.out).mono ?_; rintro e w' ⟨rfl, rfl⟩; rw [h3]))
  go_ret
  exact ⟨rfl, heap_setCell_same w k 2 _ _ _ HW.out, kept1 w k 2 _⟩
theorem cut_nil (t : Int) (w : World) :
    Calls Try.prog 15 #[.pointer none, .int .i64 t] w fun e w' => e = .returned (.bool false) ∧ w = w' := by
  go_enter Try.func15, Try.ntmps15
  go_wp2
  go_ret
  exact ⟨rfl, rfl⟩
end Go.Proofs.Ytkeigfkcoleboaa.WireW
