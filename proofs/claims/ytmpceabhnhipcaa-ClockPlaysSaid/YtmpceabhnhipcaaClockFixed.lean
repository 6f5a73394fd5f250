/- The chapter's examples; a clock made of another's mark. -/
import Derived.Test.YtmpceabhnhipcaaClockE
import Derived.Test.YtmpceabhnhipcaaClockF
namespace Go.Proofs.Ytmpceabhnhipcaa.ClockW
open Go.RowKit TickW NumW Shell
theorem c_nan (w : World) : Calls Try.prog 26 #[] w fun e w' => e = .returned (.float .f64 9221120237041090561) ∧ w' = w := by
  go_enter Try.func26, Try.ntmps26
  go_wp2
  go_ret
  exact ⟨rfl, rfl⟩
theorem d_half (w : World) : Calls Try.prog 23 #[.float .f64 4602678819172646912] w fun e w' => e = .returned (.tuple #[.int .i64 500, .int .i64 0]) ∧ Below w.heap.size w w' := by
  have h := drift_any 4602678819172646912 w
  rwa [show driftV 4602678819172646912 = .tuple #[.int .i64 500, .int .i64 0] by
    unfold driftV
    rw [show FloatKind.f64.format.mul 4602678819172646912 4652007308841189376 = some 4647503709213818880 by decide +kernel]
    dsimp only
    rw [show intAns 4647503709213818880 = (500, 0) by decide +kernel]
    rfl] at h
theorem d_nan (w : World) : Calls Try.prog 23 #[.float .f64 9221120237041090561] w fun e w' => e = .returned (.tuple #[.int .i64 0, .int .i64 3]) ∧ Below w.heap.size w w' := by
  have h := drift_any 9221120237041090561 w
  rwa [show driftV 9221120237041090561 = .tuple #[.int .i64 0, .int .i64 3] by
    unfold driftV
    rw [show FloatKind.f64.format.mul 9221120237041090561 4652007308841189376 = none by decide +kernel]
    rfl] at h
theorem ci0 (m b r : Int) (h : okN m b r = true) : CI m b r := (okN_iff.1 h).1
theorem now0 (k : Nat) (m b r t z : Int) (h : okN m b r = true) (ht : tell m t = true) (hz : sh m b r t = z) (w : World) (hc : CK w k m b r) :
    Calls Try.prog 14 #[.pointer (some ⟨k, 0, none⟩), .int .i64 t] w fun e w' => e = .returned (.tuple #[.int .i64 z, .int .i64 0]) ∧ Below w.heap.size w w' := hz ▸ now_ok k m b r t w hc (ci0 _ _ _ h) ht
theorem when0 (k : Nat) (m b r n z : Int) (h : okN m b r = true) (hn : ¬ n ≤ b) (hs : ¬ sh m b r 1125899906842624 < n) (hz : wh m b r n = z) (w : World) (hc : CK w k m b r) :
    Calls Try.prog 20 #[.pointer (some ⟨k, 0, none⟩), .int .i64 n] w fun e w' => e = .returned (.tuple #[.int .i64 z, .int .i64 0]) ∧ Below w.heap.size w w' := hz ▸ when_ok k m b r n w hc (ci0 _ _ _ h) hn hs
theorem rate0 (k : Nat) (m b r t r' z : Int) (h : okN m b r = true) (ht : tell m t = true) (hr : okR r' = true) (hz : sh m b r t = z) (w : World) (hc : CK w k m b r) :
    Calls Try.prog 16 #[.pointer (some ⟨k, 0, none⟩), .int .i64 t, .int .i64 r'] w fun e w' => e = .returned (.int .i64 0) ∧ CK w' k t z r' ∧ Kept k w w' := hz ▸ rate_ok k m b r t r' w hc (ci0 _ _ _ h) ht hr
set_option maxHeartbeats 2000000 in
set_option maxRecDepth 100000 in
theorem fixed_any (w : World) : Calls Try.prog 9 #[] w fun e w' => e = .returned (.bool true) ∧ Below w.heap.size w w' := by
  go_enter Try.func9, Try.ntmps9
  go_wp2_with fail
  refine (new_ok 0 0 100000 (by decide) _).mono ?_
  rintro e w1 ⟨rfl, c1, b1⟩
  have C1 := Lib.hid c1
  have B1 := Lib.hid b1
  clear c1 b1
  go_wp2_with fail
  refine (new_ok 0 0 (-1) (by decide) _).mono ?_
  rintro e w2 ⟨rfl, c2, b2⟩
  have C2 := Lib.hid (C1.out.below b2)
  have D2 := Lib.hid c2
  have B2 := Lib.hid (B1.out.trans (b2.mono B1.out.size))
  have NE := Lib.hid (Nat.ne_of_gt C1.out.lt)
  generalize hk : w.heap.size = k at *
  generalize hj : w1.heap.size = j at *
  clear c2 b2 C1 B1
  go_wp2_with fail
  refine (new_bad (-1) 0 0 (by decide) _).mono ?_
  rintro e w' ⟨rfl, rfl⟩
  go_wp2_with fail
  refine (now0 k 0 0 100000 10000 10001 (by decide) (by decide) (by decide) _ C2.out).mono ?_
  rintro e w3 ⟨rfl, b3⟩
  have C3 := Lib.hid (C2.out.below b3)
  have D3 := Lib.hid (D2.out.below b3)
  have B3 := Lib.hid (B2.out.trans (b3.mono (Nat.le_of_lt C2.out.lt)))
  clear b3 C2 D2 B2
  go_wp2_with fail
  refine (when0 j 0 0 (-1) 5 6 (by decide) (by decide) (by decide) (by decide) _ D3.out).mono ?_
  rintro e w4 ⟨rfl, b4⟩
  have C4 := Lib.hid (C3.out.below b4)
  have D4 := Lib.hid (D3.out.below b4)
  have B4 := Lib.hid (B3.out.trans (b4.mono (Nat.le_of_lt C3.out.lt)))
  clear b4 C3 D3 B3
  go_wp2_with fail
  refine (d_half _).mono ?_
  rintro e w5 ⟨rfl, b5⟩
  have C5 := Lib.hid (C4.out.below b5)
  have D5 := Lib.hid (D4.out.below b5)
  have B5 := Lib.hid (B4.out.trans (b5.mono (Nat.le_of_lt C4.out.lt)))
  clear b5 C4 D4 B4
  go_wp2_with (first | (go_at_call 26; refine (c_nan _).mono ?_; rintro e w' ⟨rfl, rfl⟩))
  refine (d_nan _).mono ?_
  rintro e w6 ⟨rfl, b6⟩
  have C6 := Lib.hid (C5.out.below b6)
  have B6 := Lib.hid (B5.out.trans (b6.mono (Nat.le_of_lt C5.out.lt)))
  clear b6 C5 D5 B5
  go_wp2_with fail
  refine (set_ok k 0 0 100000 20000 7 _ C6.out (by decide) (by decide)).mono ?_
  rintro e w7 ⟨rfl, c7, b7⟩
  have C7 := Lib.hid c7
  have B7 := Lib.hid (B6.out.trans (b7.below (Nat.le_refl _) (Nat.le_of_lt C6.out.lt)))
  clear b7 c7 C6 B6
  go_wp2_with fail
  refine (rate0 k 20000 7 100000 20001 0 8 (by decide) (by decide) (by decide) (by decide) _ C7.out).mono ?_
  rintro e w8 ⟨rfl, c8, b8⟩
  have C8 := Lib.hid c8
  have B8 := Lib.hid (B7.out.trans (b8.below (Nat.le_refl _) (Nat.le_of_lt C7.out.lt)))
  clear b8 c8 C7 B7
  go_wp2_with fail
  refine (mark_any k 20001 8 0 _ C8.out).mono ?_
  rintro e w9 ⟨rfl, b9⟩
  have B9 := Lib.hid (B8.out.trans (b9.mono (Nat.le_of_lt C8.out.lt)))
  clear b9 C8 B8
  go_wp2
  go_ret
  exact ⟨rfl, by rw [hk]; exact B9.out⟩
abbrev arr3 (x y z : Int) : Obj := .cells #[.int .i64 x, .int .i64 y, .int .i64 z] 22 (0, 0)
abbrev ck (x y z : Int) : Obj := .cells #[.int .i64 x, .int .i64 y, .int .i64 z] 53 (0, 0)
theorem cells3 {w : World} {j : Nat} {x y z : Value} {t : TypeId} (h : w.heap[j]? = some (.cells #[x, y, z] t (0, 0))) : w.cell? ⟨j, 0, none⟩ = some x ∧ w.cell? ⟨j, 1, none⟩ = some y ∧ w.cell? ⟨j, 2, none⟩ = some z :=
  ⟨cell_of_row w j 0 _ _ _ h, cell_of_row w j 1 _ _ _ h, cell_of_row w j 2 _ _ _ h⟩
end Go.Proofs.Ytmpceabhnhipcaa.ClockW
