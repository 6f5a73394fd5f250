/- Clear. -/
import Derived.Test.YtkeigfkcoleboaaWireA
namespace Go.Proofs.Ytkeigfkcoleboaa.WireW
open Go.RowKit FrameW Shell
/-- What Clear tells of a frame that has spent cl, with a more: 0, 1 or 4. -/
def clrE (cl a : Int) : Int := if a < 0 then 1 else if okD cl && decide (a ≤ 1048576 - cl) then 0 else 4
theorem clr_zero {cl a : Int} (h : clrE cl a = 0) : 0 ≤ a ∧ 0 ≤ cl ∧ cl + a ≤ 1048576 ∧ okD cl = true := by
  unfold clrE at h
  split at h
  · omega
  · split at h
    · rename_i h1 h2
      rw [Bool.and_eq_true, decide_eq_true_iff] at h2
      have := okD_iff.1 h2.1
      exact ⟨by omega, by omega, by omega, h2.1⟩
    · omega
theorem clear_neg (k f cy cr cl a : Int) (w : World) (h : a < 0) :
    Calls Try.prog 17 #[CV k f cy cr cl, .int .i64 a] w fun e w' => e = .returned (.tuple #[CV 0 0 0 0 0, .int .i64 1]) ∧ Below w.heap.size w w' := by
  go_enter Try.func17, Try.ntmps17
  go_wp2
  exact ret_ctl rfl rfl (heap_at (by simp) _) ⟨rfl, al (al (Below.refl _ _) _) _⟩
theorem clear_ok (k f cy cr cl a : Int) (w : World) (h : clrE cl a = 0) :
    Calls Try.prog 17 #[CV k f cy cr cl, .int .i64 a] w fun e w' => e = .returned (.tuple #[CV k f cy cr (cl + a), .int .i64 0]) ∧ Below w.heap.size w w' := by
  obtain ⟨h0, h1, h2, h3⟩ := clr_zero h
  unfold okD at h3
  have E := Lib.hid (show wrap64 (cl + a) = cl + a by unfold wrap64; omega)
  have q : ¬ a < 0 := by omega
  have q2 : a ≤ 1048576 - cl := by omega
  clear h
  go_enter Try.func17, Try.ntmps17
  go_wp2_with (first
    | (go_at_call 18; refine (between_any _ _ _ _).mono ?_; rintro e w' ⟨rfl, rfl⟩; rw [h3]))
  exact ret_ctl rfl rfl (heap_at (by simp) _) ⟨rfl, al (al (Below.refl _ _) _) _⟩
theorem clear_far (k f cy cr cl a : Int) (w : World) (h : clrE cl a = 4) :
    Calls Try.prog 17 #[CV k f cy cr cl, .int .i64 a] w fun e w' => e = .returned (.tuple #[CV 0 0 0 0 0, .int .i64 4]) ∧ Below w.heap.size w w' := by
  unfold clrE okD at h
  have q : ¬ a < 0 := by intro h1; rw [if_pos h1] at h; omega
  rw [if_neg q] at h
  cases h3 : inn cl 0 1048576 with
  | false =>
    clear h
    go_enter Try.func17, Try.ntmps17
    go_wp2_with (first
      | (go_at_call 18; refine (between_any _ _ _ _).mono ?_; rintro e w' ⟨rfl, rfl⟩; rw [h3]))
    exact ret_ctl rfl rfl (heap_at (by simp) _) ⟨rfl, al (al (Below.refl _ _) _) _⟩
  | true =>
    have q1 := inn_iff.1 h3
    have q2 : ¬ a ≤ 1048576 - cl := by
      intro h1
      rw [h3, decide_eq_true h1, Bool.and_true, if_pos rfl] at h
      omega
    have q3 := q1.1
    have q4 := q1.2
    clear h q1
    go_enter Try.func17, Try.ntmps17
    go_wp2_with (first
      | (go_at_call 18; refine (between_any _ _ _ _).mono ?_; rintro e w' ⟨rfl, rfl⟩; rw [h3]))
    exact ret_ctl rfl rfl (heap_at (by simp) _) ⟨rfl, al (al (Below.refl _ _) _) _⟩
end Go.Proofs.Ytkeigfkcoleboaa.WireW
