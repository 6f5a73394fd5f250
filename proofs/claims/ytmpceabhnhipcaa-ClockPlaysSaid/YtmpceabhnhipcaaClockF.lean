/- Drift, the program's and the document's own. -/
import Derived.Test.YtmpceabhnhipcaaClockA
import Derived.Test.YtmpceabhnhipcaaNumWalk14
namespace Go.Proofs.Ytmpceabhnhipcaa.ClockW
open Go.RowKit NumP NumW
def driftA (a : Int × Int) : Int × Int := if a.2 ≠ 0 then (0, a.2) else if okR a.1 then (a.1, 0) else (0, 4)
def driftV (x : Nat) : Value := match FloatKind.f64.format.mul x 4652007308841189376 with
  | some r => intVal (driftA (intAns r))
  | none => intVal (0, 3)
theorem intAns_one (x : Nat) : intAns (oneN x) = intAns x := by
  by_cases h : 9218868437227405312 < mag x
  · have h9 : kind x = 9 := (kind9_iff x).2 h
    rw [one_nan x h]
    unfold intAns
    rw [if_pos h9, if_pos (by decide +kernel)]
  · rw [one_num x h]
theorem drift_walk (x y : Nat) (a : Int × Int) (hy : y < 18446744073709551616) (hA : intAns y = a)
    (T : ∀ w, Calls Try.prog 35 #[.float .f64 x, .float .f64 4652007308841189376] w fun e w' => e = .returned (.float .f64 y) ∧ Below w.heap.size w w') (w : World) :
    Calls Try.prog 23 #[.float .f64 x] w fun e w' => e = .returned (intVal (driftA a)) ∧ Below w.heap.size w w' := by
  have I := fun W => int_any y hy W
  rw [hA] at I
  unfold driftA
  obtain ⟨a1, a2⟩ := a
  unfold intVal at *
  dsimp only at *
  by_cases h2 : a2 = 0
  · subst h2
    rw [if_neg (by simp)]
    cases hr : okR a1 with
    | true =>
      go_enter Try.func23, Try.ntmps23
      go_wp2_with (first
        | (go_at_call 35; refine (T _).mono ?_; rintro e w1 ⟨rfl, b1⟩)
        | (go_at_call 34; refine (I _).mono ?_; rintro e w2 ⟨rfl, rfl⟩)
        | (go_at_call 29; refine (isRate_any _ _).mono ?_; rintro e w2 ⟨rfl, rfl⟩; rw [hr]))
      go_ret2
      exact ⟨rfl, b1⟩
    | false =>
      go_enter Try.func23, Try.ntmps23
      go_wp2_with (first
        | (go_at_call 35; refine (T _).mono ?_; rintro e w1 ⟨rfl, b1⟩)
        | (go_at_call 34; refine (I _).mono ?_; rintro e w2 ⟨rfl, rfl⟩)
        | (go_at_call 29; refine (isRate_any _ _).mono ?_; rintro e w2 ⟨rfl, rfl⟩; rw [hr]))
      go_ret2
      exact ⟨rfl, b1⟩
  · rw [if_pos h2]
    have k : (a2 == 0) = false := by simpa using h2
    go_enter Try.func23, Try.ntmps23
    go_wp2_with (first
      | (go_at_call 35; refine (T _).mono ?_; rintro e w1 ⟨rfl, b1⟩)
      | (go_at_call 34; refine (I _).mono ?_; rintro e w2 ⟨rfl, rfl⟩))
    go_ret2
    exact ⟨rfl, b1⟩
theorem drift_any (x : Nat) (w : World) : Calls Try.prog 23 #[.float .f64 x] w fun e w' => e = .returned (driftV x) ∧ Below w.heap.size w w' := by
  unfold driftV
  cases hm : FloatKind.f64.format.mul x 4652007308841189376 with
  | some r => exact drift_walk x (oneN r) (intAns r) (one_lt r (FloatKind.f64.format.mul_lt hm)) (intAns_one r) (fun w => (times_ok x 4652007308841189376 r hm w).mono fun _ _ h => ⟨h.1, by rw [h.2]; exact Below.refl _ _⟩) w
  | none =>
    have h := drift_walk x 9221120237041090561 (0, 3) (by decide) (by unfold intAns; rw [if_pos (by decide +kernel)]) (fun w => (times_nan x 4652007308841189376 hm w).mono fun _ _ h => ⟨h.1, by rw [← h.2]; exact (Below.refl _ _).drew⟩) w
    exact h
theorem refDrift_ok (x r : Nat) (a : Int × Int) (hm : FloatKind.f64.format.mul x 4652007308841189376 = some r) (hA : intAns r = a) (w : World) :
    Calls Try.prog 24 #[.float .f64 x] w fun e w' => e = .returned (intVal (driftA a)) ∧ Below w.heap.size w w' := by
  have m : ∀ w, (binOp .mul 46 (.float .f64 x) (.float .f64 4652007308841189376)).run Try.prog w = .ok (.float .f64 r) w := fun w => run_float_arith w _ _ _ _ _ _ hm
  have I := fun W => refInt_any r (FloatKind.f64.format.mul_lt hm) W
  rw [hA] at I
  clear hm hA
  unfold driftA
  obtain ⟨a1, a2⟩ := a
  unfold intVal at *
  dsimp only at *
  by_cases h2 : a2 = 0
  · subst h2
    rw [if_neg (by simp)]
    cases hr : okR a1 with
    | true =>
      go_enter Try.func24, Try.ntmps24
      go_wp2_with (first
        | (go_at_call 36; refine (I _).mono ?_; rintro e w2 ⟨rfl, rfl⟩)
        | (go_at_call 13; refine (fast_any _ _).mono ?_; rintro e w2 ⟨rfl, rfl⟩; rw [hr]))
      go_ret2
      exact ⟨rfl, Below.refl _ _⟩
    | false =>
      go_enter Try.func24, Try.ntmps24
      go_wp2_with (first
        | (go_at_call 36; refine (I _).mono ?_; rintro e w2 ⟨rfl, rfl⟩)
        | (go_at_call 13; refine (fast_any _ _).mono ?_; rintro e w2 ⟨rfl, rfl⟩; rw [hr]))
      go_ret2
      exact ⟨rfl, Below.refl _ _⟩
  · rw [if_pos h2]
    have k : (a2 == 0) = false := by simpa using h2
    go_enter Try.func24, Try.ntmps24
    go_wp2_with (first
      | (go_at_call 36; refine (I _).mono ?_; rintro e w2 ⟨rfl, rfl⟩))
    go_ret2
    exact ⟨rfl, Below.refl _ _⟩
theorem intAns_nan (y : Nat) (h : 9218868437227405312 < mag y) : intAns y = (0, 3) := by
  unfold intAns
  rw [if_pos ((kind9_iff y).2 h)]
theorem refDrift_nan (x : Nat) (hm : FloatKind.f64.format.mul x 4652007308841189376 = none) (w : World) :
    Calls Try.prog 24 #[.float .f64 x] w fun e w' => e = .returned (intVal (0, 3)) ∧ Below w.heap.size w w' := by
  have m := run_nan .mul 46 x 4652007308841189376 (Or.inr ⟨rfl, hm⟩)
  have Hb := Lib.hid (drawnNaN_nan x 4652007308841189376)
  clear hm
  unfold intVal
  go_enter Try.func24, Try.ntmps24
  go_wp2_with (first
    | (go_at_call 36; refine (refInt_any _ (Hb.out _).2 _).mono ?_; rintro e w2 ⟨rfl, rfl⟩; rw [intAns_nan _ (Hb.out _).1]; unfold intVal))
  go_ret2
  exact ⟨rfl, (Below.refl _ _).drew⟩
theorem refDrift_any (x : Nat) (w : World) : Calls Try.prog 24 #[.float .f64 x] w fun e w' => e = .returned (driftV x) ∧ Below w.heap.size w w' := by
  unfold driftV
  cases hm : FloatKind.f64.format.mul x 4652007308841189376 with
  | some r => exact refDrift_ok x r _ hm rfl w
  | none => exact refDrift_nan x hm w
theorem driftV_tuple (x : Nat) : ∃ n k : Int, driftV x = .tuple #[.int .i64 n, .int .i64 k] := by
  unfold driftV
  split
  · exact ⟨_, _, rfl⟩
  · exact ⟨_, _, rfl⟩
end Go.Proofs.Ytmpceabhnhipcaa.ClockW
