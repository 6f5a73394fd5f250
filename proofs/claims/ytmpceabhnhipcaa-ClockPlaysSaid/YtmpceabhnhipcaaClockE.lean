/- The document's own When: from a near time on, step by step. -/
import Derived.Test.YtmpceabhnhipcaaClockD
namespace Go.Proofs.Ytmpceabhnhipcaa.ClockW
open Go.RowKit TickW Shell
def RK (w : World) (k : Nat) (m b r : Int) : Prop := w.heap[k]? = some (.cells #[.int .i64 m, .int .i64 b, .int .i64 r] 31 (0, 0))
theorem RK.mark {w : World} {k : Nat} {m b r : Int} (h : RK w k m b r) : w.cell? ⟨k, 0, none⟩ = some (.int .i64 m) := cell_of_row w k 0 _ _ _ h
theorem RK.base {w : World} {k : Nat} {m b r : Int} (h : RK w k m b r) : w.cell? ⟨k, 1, none⟩ = some (.int .i64 b) := cell_of_row w k 1 _ _ _ h
theorem RK.rate {w : World} {k : Nat} {m b r : Int} (h : RK w k m b r) : w.cell? ⟨k, 2, none⟩ = some (.int .i64 r) := cell_of_row w k 2 _ _ _ h
theorem RK.below {w w1 : World} {k : Nat} {m b r : Int} (h : RK w k m b r) (hb : Below w.heap.size w w1) : RK w1 k m b r := row_below hb h
theorem refWhen_none (m b r n : Int) (w : World) (hi : CI m b r) (hs : sh m b r 1125899906842624 < n) :
    Calls Try.prog 21 #[RV m b r, .int .i64 n] w fun e w' => e = .returned (.tuple #[.int .i64 0, .int .i64 5]) ∧ Below w.heap.size w w' := by
  have S := fun W => at_any m b r 1125899906842624 W hi hi.m1 (Int.le_refl _)
  generalize sh m b r 1125899906842624 = z at *
  unfold RV at *
  clear hi
  go_enter Try.func21, Try.ntmps21
  go_wp2_with (first
    | (go_at_call 32; refine (S _).mono ?_; rintro e w1 ⟨rfl, b1⟩))
  go_ret2
  exact ⟨rfl, (al (Below.refl _ _) _).trans (b1.mono (by simp))⟩
set_option maxHeartbeats 2000000 in
set_option maxRecDepth 100000 in
theorem refWhen_ok (m b r n : Int) (w : World) (hi : CI m b r) (hs : ¬ sh m b r 1125899906842624 < n) :
    Calls Try.prog 21 #[RV m b r, .int .i64 n] w fun e w' => e = .returned (.tuple #[.int .i64 (wh m b r n), .int .i64 0]) ∧ Below w.heap.size w w' := by
  have HI := Lib.hid hi
  have S := fun t W h0 h1 => at_any m b r t W hi h0 h1
  have S0 := fun W => S 1125899906842624 W hi.m1 (Int.le_refl _)
  have HS := Lib.hid S
  have m0 := hi.m0
  have m1 := hi.m1
  have HN := Lib.hid (Int.not_lt.1 hs)
  generalize hz : sh m b r 1125899906842624 = z at *
  have HZ := Lib.hid hz
  unfold RV at *
  clear hi S hz
  go_enter Try.func21, Try.ntmps21
  go_upto_region 3 with (first
    | (go_at_call 32; refine (S0 _).mono ?_; rintro e w1 ⟨rfl, b1⟩))
  have r1 : RK w1 w.heap.size m b r := row_below b1 (heap_alloc_new _ _)
  have B1 := Lib.hid (show Below w.heap.size w w1 from (al (Below.refl _ _) _).trans (b1.mono (by simp)))
  have R1 := Lib.hid r1
  have a0 := r1.mark
  clear b1 r1 S0 hs
  go_wp2_with fail
  clear a0
  go_loopw [6, 7] (fun tv sv wr => ∃ (t s : Int), tv = .int .i64 t ∧ sv = .int .i64 s ∧ Hid (m ≤ t ∧ t ≤ 1125899906842624 ∧ (t = m ∨ sh m b r t < n)) ∧ Hid (0 ≤ s ∧ s ≤ 1125899906842624 ∧ (s = 0 → 1125899906842624 < t + 1 ∨ n ≤ sh m b r (t + 1))) ∧ Hid (RK wr w.heap.size m b r) ∧ Hid (Below w.heap.size w wr)) (fun _ sv _ => (intOf sv).toNat)
  case atStart => exact ⟨m, _, rfl, rfl, Lib.hid ⟨Int.le_refl _, m1, Or.inl rfl⟩, Lib.hid ⟨by decide, by decide, fun h => by simp at h⟩, R1, B1⟩
  case round =>
    obtain ⟨t, s, rfl, rfl, HT, HP, HR, HB⟩ := hrel
    by_cases hs : 0 < s
    · have sb := HP.out.2.1
      go_wp2_with fail
      obtain ⟨w0, hw0⟩ : ∃ w0, w0 = wr := ⟨_, rfl⟩
      subst hw0
      go_loopw [6] (fun tv wr => ∃ (t : Int), tv = .int .i64 t ∧ Hid (m ≤ t ∧ t ≤ 1125899906842624 ∧ (t = m ∨ sh m b r t < n)) ∧ Hid (RK wr w.heap.size m b r) ∧ Hid (Below w.heap.size w wr)) (fun tv _ => (1125899906842624 - intOf tv).toNat)
      case atStart => exact ⟨t, rfl, HT, HR, HB⟩
      case round =>
        clear HT HR HB
        obtain ⟨t, rfl, HT, HR, HB⟩ := hrel
        have t0 := HT.out.1
        have t1 := HT.out.2.1
        have g0 := HR.out.mark
        have g1 := HR.out.base
        have g2 := HR.out.rate
        by_cases hc : t + s ≤ 1125899906842624
        · have A := fun W => HS.out (t + s) W (by omega) hc
          by_cases hn : sh m b r (t + s) < n
          · generalize hy : sh m b r (t + s) = y at *
            have HY := Lib.hid hy
            clear hy
            go_wp2_with (first
              | (go_at_call 32; refine (A _).mono ?_; rintro e w2 ⟨rfl, b2⟩))
            go_roundw
            case rel => exact ⟨_, rfl, Lib.hid ⟨by omega, hc, Or.inr (by rw [HY.out]; exact hn)⟩, Lib.hid (HR.out.below b2), Lib.hid (HB.out.trans (b2.mono HB.out.size))⟩
            case measure => simp only [intOf]; omega
          · go_wp2_with (first
              | (go_at_call 32; refine (A _).mono ?_; rintro e w2 ⟨rfl, b2⟩))
            go_roundw
            case rel => exact ⟨t, s / 2, rfl, rfl, HT, Lib.hid ⟨by omega, by omega, fun h => Or.inr (by rw [show t + 1 = t + s by omega]; omega)⟩, Lib.hid (HR.out.below b2), Lib.hid (HB.out.trans (b2.mono HB.out.size))⟩
            case measure => simp only [intOf]; omega
        · go_wp2
          go_roundw
          case rel => exact ⟨t, s / 2, rfl, rfl, HT, Lib.hid ⟨by omega, by omega, fun h => Or.inl (by omega)⟩, HR, HB⟩
          case measure => simp only [intOf]; omega
    · have s0 : s = 0 := by have := HP.out.1; omega
      subst s0
      have A := fun W => HS.out t W HT.out.1 HT.out.2.1
      have g0 := HR.out.mark
      have g1 := HR.out.base
      have g2 := HR.out.rate
      have HQ := Lib.hid (HP.out.2.2 rfl)
      clear HP
      by_cases hn : sh m b r t < n
      · have hu : t + 1 = wh m b r n := by
          rcases HQ.out with h | h
          · exfalso
            have : t = 1125899906842624 := by have := HT.out.2.1; omega
            have h2 := HN.out
            rw [← HZ.out, ← this] at h2
            omega
          · exact wh_only HI.out.r0 (by have := HT.out.1; omega) h (Or.inr (by rw [show t + 1 - 1 = t by omega]; exact hn))
        have HU := Lib.hid hu
        have t0 := HT.out.1
        have t1 := HT.out.2.1
        generalize sh m b r t = y at *
        clear hu
        go_wp2_with (first
          | (go_at_call 32; refine (A _).mono ?_; rintro e w2 ⟨rfl, b2⟩))
        go_ret2
        exact ⟨by rw [← HU.out]; rfl, HB.out.trans (b2.mono HB.out.size)⟩
      · have hu : t = wh m b r n := wh_only HI.out.r0 HT.out.1 (Int.not_lt.1 hn) (by
          rcases HT.out.2.2 with h | h
          · exact Or.inl h
          · exact absurd h hn)
        have HU := Lib.hid hu
        generalize sh m b r t = y at *
        clear hu
        go_wp2_with (first
          | (go_at_call 32; refine (A _).mono ?_; rintro e w2 ⟨rfl, b2⟩))
        go_ret2
        exact ⟨by rw [← HU.out]; rfl, HB.out.trans (b2.mono HB.out.size)⟩
end Go.Proofs.Ytmpceabhnhipcaa.ClockW
