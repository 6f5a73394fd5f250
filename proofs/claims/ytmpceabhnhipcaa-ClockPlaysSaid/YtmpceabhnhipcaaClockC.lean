/- Package clock's When; the document's own reckoning: At, Now, Rate, Set. -/
import Derived.Test.YtmpceabhnhipcaaClockB
namespace Go.Proofs.Ytmpceabhnhipcaa.ClockW
open Go.RowKit TickW Shell
theorem when_nil (n : Int) (w : World) :
    Calls Try.prog 20 #[.pointer none, .int .i64 n] w fun e w' => e = .returned (.tuple #[.int .i64 0, .int .i64 1]) ∧ w = w' := by
  go_enter Try.func20, Try.ntmps20
  go_wp2
  go_ret2
  exact ⟨rfl, rfl⟩
theorem when_low (k : Nat) (m b r n : Int) (w : World) (h : CK w k m b r) (hn : n ≤ b) :
    Calls Try.prog 20 #[.pointer (some ⟨k, 0, none⟩), .int .i64 n] w fun e w' => e = .returned (.tuple #[.int .i64 m, .int .i64 0]) ∧ w = w' := by
  have g0 := h.mark
  have g1 := h.base
  go_enter Try.func20, Try.ntmps20
  go_wp2
  go_ret2
  exact ⟨rfl, rfl⟩
theorem when_none (k : Nat) (m b r n : Int) (w : World) (h : CK w k m b r) (hi : CI m b r) (hn : ¬ n ≤ b) (hs : sh m b r 1125899906842624 < n) :
    Calls Try.prog 20 #[.pointer (some ⟨k, 0, none⟩), .int .i64 n] w fun e w' => e = .returned (.tuple #[.int .i64 0, .int .i64 5]) ∧ Below w.heap.size w w' := by
  have S := shows_any k m b r 1125899906842624 w h hi hi.m1 (Int.le_refl _)
  have g0 := h.mark
  have g1 := h.base
  generalize sh m b r 1125899906842624 = z at *
  clear hi
  go_enter Try.func20, Try.ntmps20
  go_wp2_with (go_at_call 31; refine S.mono ?_; rintro e w1 ⟨rfl, b1⟩)
  go_ret2
  exact ⟨rfl, b1⟩
theorem when_ok (k : Nat) (m b r n : Int) (w : World) (h : CK w k m b r) (hi : CI m b r) (hn : ¬ n ≤ b) (hs : ¬ sh m b r 1125899906842624 < n) :
    Calls Try.prog 20 #[.pointer (some ⟨k, 0, none⟩), .int .i64 n] w fun e w' => e = .returned (.tuple #[.int .i64 (wh m b r n), .int .i64 0]) ∧ Below w.heap.size w w' := by
  have S := shows_any k m b r 1125899906842624 w h hi hi.m1 (Int.le_refl _)
  have W1 := wh_last (m := m) hi.r0 (Int.not_le.1 hn) (Int.not_lt.1 hs)
  obtain ⟨W0, W2, -, -⟩ := wh_high (m := m) hi.r0 (Int.not_le.1 hn)
  have hr := sh_range hi hi.m1 (Int.le_refl _)
  have hb := hi.base
  have g0 := h.mark
  have g1 := h.base
  have g2 := h.rate
  obtain ⟨m0, m1, b0, b1, r0, r1⟩ := hi
  generalize sh m b r 1125899906842624 = z at *
  have eA : ansV ((b - n) * 1000000000 / (1000000000 + r)) = .tuple #[.int .i64 ((b - n) * 1000000000 / (1000000000 + r)), .int .i64 0] := ansV_in _ (by omega) (by omega)
  have M := fun W => muldiv_any (b - n) 1000000000 (1000000000 + r) (by omega) (by omega) (by omega) (by omega) (by omega) (by omega) W
  rw [eA] at M
  have eD : IntKind.i64.wrap (b - n) = b - n := by rw [IntKind.wrap_i64]; omega
  have eR : IntKind.i64.wrap (1000000000 + r) = 1000000000 + r := by rw [IntKind.wrap_i64]; omega
  have eS : wrap64 (m - (b - n) * 1000000000 / (1000000000 + r)) = wh m b r n := by rw [← W0]; unfold wrap64; omega
  generalize (b - n) * 1000000000 / (1000000000 + r) = q at *
  have HM := Lib.hid (show ∀ W, Calls Try.prog 33 #[.int .i64 (IntKind.i64.wrap (b - n)), .int .i64 1000000000, .int .i64 (IntKind.i64.wrap (1000000000 + r))] W fun e w' => e = .returned (.tuple #[.int .i64 q, .int .i64 0]) ∧ Below W.heap.size W w' by rw [eD, eR]; exact M)
  have C := Lib.hid h
  have HW := Lib.hid eS
  have HS := Lib.hid S
  clear eD eR eA M W0 W1 W2 hr hb m0 m1 b0 b1 r0 r1 eS S h
  go_enter Try.func20, Try.ntmps20
  go_wp2_with fail
  refine HS.out.mono ?_
  rintro e w1 ⟨rfl, b1⟩
  have C1 := Lib.hid (C.out.below b1)
  have B1 := Lib.hid b1
  have a0 := C1.out.mark
  have a1 := C1.out.base
  have a2 := C1.out.rate
  clear b1
  go_wp2_with fail
  go_region_held3 (fun w' => w'.cell? ⟨k, 0, none⟩ = some (.int .i64 m) ∧ w'.cell? ⟨k, 1, none⟩ = some (.int .i64 b) ∧ w'.cell? ⟨k, 2, none⟩ = some (.int .i64 r)) (first | exact ⟨C1.out.mark, C1.out.base, C1.out.rate⟩ | exact ⟨K2.out.mark, K2.out.base, K2.out.rate⟩) (first | (go_at_call 33; (with_reducible refine (HM.out _).mono ?_); rintro e w2 ⟨rfl, b2⟩; have K2 := Lib.hid (CK.below (w := w1.drew) C1.out b2); have B2 := Lib.hid (of_drew b2); clear b2))
  have d1 := K2.out.mark
  go_wp2
  go_ret2
  exact ⟨by show Ending.returned (.tuple #[.int .i64 (wrap64 (m - q)), .int .i64 0]) = _; rw [HW.out], B1.out.trans (B2.out.mono B1.out.size)⟩
/-- The document's own clock, as a value. -/
def RV (m b r : Int) : Value := .agg #[.int .i64 m, .int .i64 b, .int .i64 r]
theorem floor_any (x : Int) (h0 : -1000000000000000 ≤ x) (h1 : x ≤ 1000000000000000) (w : World) :
    Calls Try.prog 39 #[.int .i64 x, .int .i64 1000000000] w fun e w' => e = .returned (.int .i64 (x / 1000000000)) ∧ w = w' := by
  have q := floor_eq x
  by_cases hx : x.tmod 1000000000 < 0
  · rw [if_pos hx] at q
    have Q := Lib.hid q
    have hl : -1000001 ≤ x.tdiv 1000000000 := by omega
    have hh : x.tdiv 1000000000 ≤ 1000001 := by omega
    clear q
    go_enter Try.func39, Try.ntmps39
    go_wp2
    go_ret
    exact ⟨by rw [Q.out]; rfl, rfl⟩
  · rw [if_neg hx] at q
    have Q := Lib.hid q
    clear q
    go_enter Try.func39, Try.ntmps39
    go_wp2
    go_ret
    exact ⟨by rw [Q.out]; rfl, rfl⟩
theorem at_any (m b r t : Int) (w : World) (hi : CI m b r) (h0 : m ≤ t) (h1 : t ≤ 1125899906842624) :
    Calls Try.prog 32 #[RV m b r, .int .i64 t] w fun e w' => e = .returned (.int .i64 (sh m b r t)) ∧ Below w.heap.size w w' := by
  have g := sh_range hi h0 h1
  have e := sh_parts m b r t
  have hb := hi.base
  obtain ⟨m0, m1, b0, b1, r0, r1⟩ := hi
  generalize sh m b r t = z at *
  obtain ⟨d, hd⟩ : ∃ d, t - m = d := ⟨_, rfl⟩
  rw [hd] at e
  have d0 : 0 ≤ d := by omega
  have d1 : d ≤ 1125899906842624 := by omega
  have p1 := Int.mul_le_mul_of_nonneg_left r1 (show (0 : Int) ≤ d / 1000000000 by omega)
  have p2 := Int.mul_le_mul_of_nonneg_left r0 (show (0 : Int) ≤ d / 1000000000 by omega)
  have p3 := Int.mul_le_mul_of_nonneg_left r1 (show (0 : Int) ≤ d % 1000000000 by omega)
  have p4 := Int.mul_le_mul_of_nonneg_left r0 (show (0 : Int) ≤ d % 1000000000 by omega)
  have fx : -1000000000000000 ≤ d % 1000000000 * r ∧ d % 1000000000 * r ≤ 1000000000000000 := by omega
  have fy : -1126000000000000 ≤ d / 1000000000 * r ∧ d / 1000000000 * r ≤ 1126000000000000 := by omega
  have F := fun W => floor_any (d % 1000000000 * r) fx.1 fx.2 W
  have eF : IntKind.i64.wrap (d % 1000000000 * r) = d % 1000000000 * r := by rw [IntKind.wrap_i64]; omega
  have HF := Lib.hid (show ∀ W, Calls Try.prog 39 #[.int .i64 (IntKind.i64.wrap (d % 1000000000 * r)), .int .i64 1000000000] W fun e w' => e = .returned (.int .i64 (d % 1000000000 * r / 1000000000)) ∧ W = w' by rw [eF]; exact F)
  have eZ : IntKind.i64.wrap (IntKind.i64.wrap (IntKind.i64.wrap (b + d) + IntKind.i64.wrap (d / 1000000000 * r)) + d % 1000000000 * r / 1000000000) = z := by
    rw [IntKind.wrap_i64, IntKind.wrap_i64, IntKind.wrap_i64, IntKind.wrap_i64]
    omega
  have HZ := Lib.hid eZ
  have HD := Lib.hid (show wrap64 (t - m) = d by unfold wrap64; omega)
  clear eZ F eF p1 p2 p3 p4 e hb fx fy g
  unfold RV
  go_enter Try.func32, Try.ntmps32
  go_wp2_with fail
  have hb := al (Below.refl w.heap.size w) (Obj.cells #[.int .i64 m, .int .i64 b, .int .i64 r] 31)
  have c0 := heap_alloc_new w (Obj.cells #[.int .i64 m, .int .i64 b, .int .i64 r] 31)
  generalize w.alloc (Obj.cells #[.int .i64 m, .int .i64 b, .int .i64 r] 31) = W at *
  have a1 := Lib.hid (cell_of_row W w.heap.size 1 _ _ _ c0)
  have a2 := Lib.hid (cell_of_row W w.heap.size 2 _ _ _ c0)
  clear c0 hd m0 m1 b0 b1 r0 r1 h0 h1 d0 d1 HD
  go_region_held3 (fun w' => w'.cell? ⟨w.heap.size, 1, none⟩ = some (.int .i64 b) ∧ w'.cell? ⟨w.heap.size, 2, none⟩ = some (.int .i64 r)) (first | exact ⟨a1.out, a2.out⟩) (first | (go_at_call 39; (with_reducible refine (HF.out _).mono ?_); rintro e w2 ⟨rfl, rfl⟩))
  go_wp2
  go_ret
  exact ⟨congrArg (fun x => Ending.returned (.int .i64 x)) HZ.out, hb.drew⟩
end Go.Proofs.Ytmpceabhnhipcaa.ClockW
