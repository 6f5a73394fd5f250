/- The document's own clock: Now, Rate, Set. -/
import Derived.Test.YtmpceabhnhipcaaClockC
namespace Go.Proofs.Ytmpceabhnhipcaa.ClockW
open Go.RowKit TickW Shell
theorem results_clock {fn : Func} {p u : Tmp} (h : fn.results = #[.cell p 31, .tmp u]) (tmps : Array Value) (w : World) (g : Nat) (t : TypeId) (x y z : Value) (fr : Nat × Nat)
    (hp : tmps.getD p undef = .pointer (some ⟨g, 0, none⟩)) (hg : w.heap[g]? = some (.cells #[x, y, z] t fr)) :
    (results fn tmps).run Try.prog w = .ok (.tuple #[.agg #[x, y, z], tmps.getD u undef]) w := by
  have hp' : tmps[p]?.getD undef = .pointer (some ⟨g, 0, none⟩) := by simpa using hp
  simp [results, h, hp', asAddr, run_loadVar_row w g t 31 #[x, y, z] fr _ hg Try.underlying31 rfl (by kernel_rfl)]
theorem ret_clock {fn : Func} {R : Ending → World → Prop} {p u : Tmp} (h : fn.results = #[.cell p 31, .tmp u]) {tmps : Array Value} {w : World} {g : Nat} {x y z : Value} {t : TypeId} {fr : Nat × Nat}
    (hp : tmps.getD p undef = .pointer (some ⟨g, 0, none⟩)) (hg : w.heap[g]? = some (.cells #[x, y, z] t fr)) (hR : R (.returned (.tuple #[.agg #[x, y, z], tmps.getD u undef])) w) :
    bodyPost Try.prog fn R .ret { tmps := tmps, defers := [] } w :=
  bodyPost_ret (results_clock h tmps w g t x y z fr hp hg) rfl hR
theorem refNow_ok (m b r t : Int) (w : World) (hi : CI m b r) (ht : tell m t = true) :
    Calls Try.prog 15 #[RV m b r, .int .i64 t] w fun e w' => e = .returned (.tuple #[.int .i64 (sh m b r t), .int .i64 0]) ∧ Below w.heap.size w w' := by
  have HT := tell_iff.1 ht
  have hm := HT.2
  have ho := okT_iff.2 HT.1
  have S := fun W => at_any m b r t W hi HT.2 HT.1.2
  generalize sh m b r t = z at *
  unfold RV at *
  have HS := Lib.hid S
  clear hi HT ht S
  go_enter Try.func15, Try.ntmps15
  go_wp2_with (first
    | (go_at_call 11; refine (real_any _ _).mono ?_; rintro e w' ⟨rfl, rfl⟩; rw [ho])
    | (go_at_call 32; refine (HS.out _).mono ?_; rintro e w1 ⟨rfl, b1⟩))
  go_ret2
  exact ⟨rfl, (al (Below.refl _ _) _).trans (b1.mono (by simp))⟩
theorem refNow_bad (m b r t : Int) (w : World) (ht : tell m t = false) :
    Calls Try.prog 15 #[RV m b r, .int .i64 t] w fun e w' => e = .returned (.tuple #[.int .i64 0, .int .i64 1]) ∧ Below w.heap.size w w' := by
  unfold RV
  unfold tell at ht
  cases ho : okT t with
  | false =>
    clear ht
    go_enter Try.func15, Try.ntmps15
    go_wp2_with (first
      | (go_at_call 11; refine (real_any _ _).mono ?_; rintro e w' ⟨rfl, rfl⟩; rw [ho]))
    go_ret2
    exact ⟨rfl, al (Below.refl _ _) _⟩
  | true =>
    rw [ho, Bool.true_and, decide_eq_false_iff_not] at ht
    go_enter Try.func15, Try.ntmps15
    go_wp2_with (first
      | (go_at_call 11; refine (real_any _ _).mono ?_; rintro e w' ⟨rfl, rfl⟩; rw [ho]))
    go_ret2
    exact ⟨rfl, al (Below.refl _ _) _⟩
theorem refRate_ok (m b r t r' : Int) (w : World) (hi : CI m b r) (ht : tell m t = true) (hr : okR r' = true) :
    Calls Try.prog 17 #[RV m b r, .int .i64 t, .int .i64 r'] w fun e w' => e = .returned (.tuple #[RV t (sh m b r t) r', .int .i64 0]) ∧ Below w.heap.size w w' := by
  have HT := tell_iff.1 ht
  have hm := HT.2
  have ho := okT_iff.2 HT.1
  have S := fun W => at_any m b r t W hi HT.2 HT.1.2
  generalize sh m b r t = z at *
  unfold RV at *
  have HS := Lib.hid S
  clear hi HT ht S
  go_enter Try.func17, Try.ntmps17
  go_wp2_with (first
    | (go_at_call 11; refine (real_any _ _).mono ?_; rintro e w' ⟨rfl, rfl⟩; rw [ho])
    | (go_at_call 13; refine (fast_any _ _).mono ?_; rintro e w' ⟨rfl, rfl⟩; rw [hr])
    | (go_at_call 32; refine (HS.out _).mono ?_; rintro e w1 ⟨rfl, b1⟩; have c1 : w1.heap[w.heap.size + 1]? = some (.cells #[.int .i64 0, .int .i64 0, .int .i64 0] 31) := row_below b1 (heap_at (by simp) _); have g0 := cell_of_row w1 (w.heap.size + 1) 0 _ _ _ c1; have g1 := cell_of_row w1 (w.heap.size + 1) 1 _ _ _ c1; have g2 := cell_of_row w1 (w.heap.size + 1) 2 _ _ _ c1; have f0 := frozen_of_row w1 (w.heap.size + 1) 0 _ _ c1; have f1 := frozen_of_row w1 (w.heap.size + 1) 1 _ _ c1; have f2 := frozen_of_row w1 (w.heap.size + 1) 2 _ _ c1))
  refine ret_clock rfl rfl (heap_setCell_same _ _ 2 _ _ _ (heap_setCell_same _ _ 1 _ _ _ (heap_setCell_same w1 _ 0 _ _ _ c1))) ⟨rfl, ?_⟩
  have hb : Below w.heap.size w w1 := (al (al (Below.refl w.heap.size w) _) _).trans (b1.mono (by simp; omega))
  exact ((hb.setCell (by simp) _).setCell (by simp) _).setCell (by simp) _
theorem refRate_bad (m b r t r' : Int) (w : World) (ht : (tell m t && okR r') = false) :
    Calls Try.prog 17 #[RV m b r, .int .i64 t, .int .i64 r'] w fun e w' => e = .returned (.tuple #[RV m b r, .int .i64 1]) ∧ Below w.heap.size w w' := by
  unfold RV tell at *
  cases ho : okT t with
  | false =>
    clear ht
    go_enter Try.func17, Try.ntmps17
    go_wp2_with (first
      | (go_at_call 11; refine (real_any _ _).mono ?_; rintro e w' ⟨rfl, rfl⟩; rw [ho]))
    exact ret_clock rfl rfl (heap_at (by simp) _) ⟨rfl, al (al (Below.refl _ _) _) _⟩
  | true =>
    rw [ho, Bool.true_and] at ht
    by_cases hm : m ≤ t
    · rw [decide_eq_true hm, Bool.true_and] at ht
      go_enter Try.func17, Try.ntmps17
      go_wp2_with (first
        | (go_at_call 11; refine (real_any _ _).mono ?_; rintro e w' ⟨rfl, rfl⟩; rw [ho])
        | (go_at_call 13; refine (fast_any _ _).mono ?_; rintro e w' ⟨rfl, rfl⟩; rw [ht]))
      exact ret_clock rfl rfl (heap_at (by simp) _) ⟨rfl, al (al (Below.refl _ _) _) _⟩
    · clear ht
      go_enter Try.func17, Try.ntmps17
      go_wp2_with (first
        | (go_at_call 11; refine (real_any _ _).mono ?_; rintro e w' ⟨rfl, rfl⟩; rw [ho]))
      exact ret_clock rfl rfl (heap_at (by simp) _) ⟨rfl, al (al (Below.refl _ _) _) _⟩
theorem refSet_ok (m b r t r' : Int) (w : World) (ht : tell m t = true) (hr : okB r' = true) :
    Calls Try.prog 19 #[RV m b r, .int .i64 t, .int .i64 r'] w fun e w' => e = .returned (.tuple #[RV t r' r, .int .i64 0]) ∧ Below w.heap.size w w' := by
  have HT := tell_iff.1 ht
  have hm := HT.2
  have ho := okT_iff.2 HT.1
  unfold RV at *
  clear HT ht
  go_enter Try.func19, Try.ntmps19
  go_wp2_with (first
    | (go_at_call 11; refine (real_any _ _).mono ?_; rintro e w' ⟨rfl, rfl⟩; rw [ho])
    | (go_at_call 12; refine (shown_any _ _).mono ?_; rintro e w' ⟨rfl, rfl⟩; rw [hr]))
  exact ret_clock rfl rfl (heap_at (by simp) _) ⟨rfl, al (al (Below.refl _ _) _) _⟩
theorem refSet_bad (m b r t r' : Int) (w : World) (ht : (tell m t && okB r') = false) :
    Calls Try.prog 19 #[RV m b r, .int .i64 t, .int .i64 r'] w fun e w' => e = .returned (.tuple #[RV m b r, .int .i64 1]) ∧ Below w.heap.size w w' := by
  unfold RV tell at *
  cases ho : okT t with
  | false =>
    clear ht
    go_enter Try.func19, Try.ntmps19
    go_wp2_with (first
      | (go_at_call 11; refine (real_any _ _).mono ?_; rintro e w' ⟨rfl, rfl⟩; rw [ho]))
    exact ret_clock rfl rfl (heap_at (by simp) _) ⟨rfl, al (al (Below.refl _ _) _) _⟩
  | true =>
    rw [ho, Bool.true_and] at ht
    by_cases hm : m ≤ t
    · rw [decide_eq_true hm, Bool.true_and] at ht
      go_enter Try.func19, Try.ntmps19
      go_wp2_with (first
        | (go_at_call 11; refine (real_any _ _).mono ?_; rintro e w' ⟨rfl, rfl⟩; rw [ho])
        | (go_at_call 12; refine (shown_any _ _).mono ?_; rintro e w' ⟨rfl, rfl⟩; rw [ht]))
      exact ret_clock rfl rfl (heap_at (by simp) _) ⟨rfl, al (al (Below.refl _ _) _) _⟩
    · clear ht
      go_enter Try.func19, Try.ntmps19
      go_wp2_with (first
        | (go_at_call 11; refine (real_any _ _).mono ?_; rintro e w' ⟨rfl, rfl⟩; rw [ho]))
      exact ret_clock rfl rfl (heap_at (by simp) _) ⟨rfl, al (al (Below.refl _ _) _) _⟩
end Go.Proofs.Ytmpceabhnhipcaa.ClockW
