/- Package clock's functions at a clock that may be: New, Now, Rate, Set, When, Mark. -/
import Derived.Test.YtmpceabhnhipcaaClockA
import Derived.Test.YtmpceabhnhipcaaStay
namespace Go.Proofs.Ytmpceabhnhipcaa.ClockW
open Go.RowKit TickW Shell
theorem shows_any (k : Nat) (m b r t : Int) (w : World) (h : CK w k m b r) (hi : CI m b r) (h0 : m ≤ t) (h1 : t ≤ 1125899906842624) :
    Calls Try.prog 31 #[.pointer (some ⟨k, 0, none⟩), .int .i64 t] w fun e w' => e = .returned (.int .i64 (sh m b r t)) ∧ Below w.heap.size w w' := by
  have g := gone_range hi h0 h1
  have q := sh_range hi h0 h1
  obtain ⟨m0, m1, b0, b1, r0, r1⟩ := hi
  have eA : ansV ((t - m) * (1000000000 + r) / 1000000000) = .tuple #[.int .i64 ((t - m) * (1000000000 + r) / 1000000000), .int .i64 0] := ansV_in _ (by omega) (by omega)
  have M := fun W => muldiv_any (t - m) (1000000000 + r) 1000000000 (by omega) (by omega) (by omega) (by omega) (by omega) (by omega) W
  rw [eA] at M
  have eD : IntKind.i64.wrap (t - m) = t - m := by rw [IntKind.wrap_i64]; omega
  have eR : IntKind.i64.wrap (1000000000 + r) = 1000000000 + r := by rw [IntKind.wrap_i64]; omega
  unfold sh at *
  clear eA
  generalize (t - m) * (1000000000 + r) / 1000000000 = z at *
  have eS : wrap64 (b + z) = b + z := by unfold wrap64; omega
  have C := Lib.hid h
  have c0 := h.mark
  have c1 := h.base
  have c2 := h.rate
  have HM := Lib.hid (show ∀ W, Calls Try.prog 33 #[.int .i64 (IntKind.i64.wrap (t - m)), .int .i64 (IntKind.i64.wrap (1000000000 + r)), .int .i64 1000000000] W fun e w' => e = .returned (.tuple #[.int .i64 z, .int .i64 0]) ∧ Below W.heap.size W w' by rw [eD, eR]; exact M)
  clear eD eR h m0 m1 b0 b1 r0 r1 g q h0 h1 M
  go_enter Try.func31, Try.ntmps31
  go_wp2_with fail
  go_region_held3 (fun w' => w'.cell? ⟨k, 0, none⟩ = some (.int .i64 m) ∧ w'.cell? ⟨k, 1, none⟩ = some (.int .i64 b) ∧ w'.cell? ⟨k, 2, none⟩ = some (.int .i64 r)) (first | exact ⟨C.out.mark, C.out.base, C.out.rate⟩ | exact ⟨K1.out.mark, K1.out.base, K1.out.rate⟩) (first | (go_at_call 33; (with_reducible refine (HM.out _).mono ?_); rintro e w1 ⟨rfl, b1⟩; have K1 := Lib.hid (CK.below (w := w.drew) C.out b1); have B1 := Lib.hid (of_drew b1); clear b1))
  have d1 := K1.out.base
  go_wp2
  go_ret
  exact ⟨by show Ending.returned (.int .i64 (wrap64 (b + z))) = _; rw [eS], B1.out⟩
def okN (t b r : Int) : Bool := okT t && (okB b && okR r)
theorem okN_iff {t b r : Int} : okN t b r = true ↔ CI t b r ∧ okB b = true := by
  unfold okN
  rw [Bool.and_eq_true, Bool.and_eq_true, okT_iff, okB_iff, okR_iff]
  constructor
  · rintro ⟨⟨h0, h1⟩, ⟨h2, h3⟩, h4, h5⟩
    exact ⟨⟨h0, h1, h2, by omega, h4, h5⟩, h2, h3⟩
  · rintro ⟨⟨h0, h1, h2, h3, h4, h5⟩, h6⟩
    exact ⟨⟨h0, h1⟩, h6, h4, h5⟩
theorem new_ok (t b r : Int) (h : okN t b r = true) (w : World) :
    Calls Try.prog 10 #[.int .i64 t, .int .i64 b, .int .i64 r] w fun e w' => e = .returned (.tuple #[.pointer (some ⟨w.heap.size, 0, none⟩), .int .i64 0]) ∧ CK w' w.heap.size t b r ∧ Below w.heap.size w w' := by
  unfold okN at h
  rw [Bool.and_eq_true, Bool.and_eq_true] at h
  obtain ⟨h1, h2, h3⟩ := h
  go_enter Try.func10, Try.ntmps10
  go_wp2_with (first
    | (go_at_call 27; refine (isTime_any _ _).mono ?_; rintro e w' ⟨rfl, rfl⟩; rw [h1])
    | (go_at_call 28; refine (isBase_any _ _).mono ?_; rintro e w' ⟨rfl, rfl⟩; rw [h2])
    | (go_at_call 29; refine (isRate_any _ _).mono ?_; rintro e w' ⟨rfl, rfl⟩; rw [h3]))
  go_ret2
  exact ⟨rfl, heap_alloc_new _ _, (Below.refl _ _).alloc (Nat.le_refl _) _⟩
theorem new_bad (t b r : Int) (h : okN t b r = false) (w : World) :
    Calls Try.prog 10 #[.int .i64 t, .int .i64 b, .int .i64 r] w fun e w' => e = .returned (.tuple #[.pointer none, .int .i64 1]) ∧ w = w' := by
  unfold okN at h
  cases h1 : okT t with
  | false =>
    clear h
    go_enter Try.func10, Try.ntmps10
    go_wp2_with (first
      | (go_at_call 27; refine (isTime_any _ _).mono ?_; rintro e w' ⟨rfl, rfl⟩; rw [h1]))
    go_ret2
    exact ⟨rfl, rfl⟩
  | true =>
    rw [h1, Bool.true_and] at h
    cases h2 : okB b with
    | false =>
      clear h
      go_enter Try.func10, Try.ntmps10
      go_wp2_with (first
        | (go_at_call 27; refine (isTime_any _ _).mono ?_; rintro e w' ⟨rfl, rfl⟩; rw [h1])
        | (go_at_call 28; refine (isBase_any _ _).mono ?_; rintro e w' ⟨rfl, rfl⟩; rw [h2]))
      go_ret2
      exact ⟨rfl, rfl⟩
    | true =>
      rw [h2, Bool.true_and] at h
      go_enter Try.func10, Try.ntmps10
      go_wp2_with (first
        | (go_at_call 27; refine (isTime_any _ _).mono ?_; rintro e w' ⟨rfl, rfl⟩; rw [h1])
        | (go_at_call 28; refine (isBase_any _ _).mono ?_; rintro e w' ⟨rfl, rfl⟩; rw [h2])
        | (go_at_call 29; refine (isRate_any _ _).mono ?_; rintro e w' ⟨rfl, rfl⟩; rw [h]))
      go_ret2
      exact ⟨rfl, rfl⟩
theorem now_ok (k : Nat) (m b r t : Int) (w : World) (h : CK w k m b r) (hi : CI m b r) (ht : tell m t = true) :
    Calls Try.prog 14 #[.pointer (some ⟨k, 0, none⟩), .int .i64 t] w fun e w' => e = .returned (.tuple #[.int .i64 (sh m b r t), .int .i64 0]) ∧ Below w.heap.size w w' := by
  have HT := tell_iff.1 ht
  have S := shows_any k m b r t w h hi HT.2 HT.1.2
  clear HT hi
  go_enter Try.func14, Try.ntmps14
  go_wp2_with (first
    | (go_at_call 30; refine (tells_any k m b r t _ h).mono ?_; rintro e w' ⟨rfl, rfl⟩; rw [ht])
    | (go_at_call 31; refine S.mono ?_; rintro e w' ⟨rfl, b1⟩))
  go_ret2
  exact ⟨rfl, b1⟩
theorem now_bad (k : Nat) (m b r t : Int) (w : World) (h : CK w k m b r) (ht : tell m t = false) :
    Calls Try.prog 14 #[.pointer (some ⟨k, 0, none⟩), .int .i64 t] w fun e w' => e = .returned (.tuple #[.int .i64 0, .int .i64 1]) ∧ w = w' := by
  go_enter Try.func14, Try.ntmps14
  go_wp2_with (first
    | (go_at_call 30; refine (tells_any k m b r t _ h).mono ?_; rintro e w' ⟨rfl, rfl⟩; rw [ht]))
  go_ret2
  exact ⟨rfl, rfl⟩
theorem now_nil (t : Int) (w : World) :
    Calls Try.prog 14 #[.pointer none, .int .i64 t] w fun e w' => e = .returned (.tuple #[.int .i64 0, .int .i64 1]) ∧ w = w' := by
  go_enter Try.func14, Try.ntmps14
  go_wp2_with (first
    | (go_at_call 30; refine (tells_nil t _).mono ?_; rintro e w' ⟨rfl, rfl⟩))
  go_ret2
  exact ⟨rfl, rfl⟩
theorem CK.kept {k j : Nat} {m b r : Int} {w w' : World} (h : CK w j m b r) (hk : Kept k w w') (hj : j ≠ k) : CK w' j m b r := (hk.block j hj h.lt).trans h
theorem set3 {w : World} {k : Nat} {m b r : Int} (h : CK w k m b r) (x y z : Int) : CK (((w.setCell ⟨k, 0, none⟩ (.int .i64 x)).setCell ⟨k, 1, none⟩ (.int .i64 y)).setCell ⟨k, 2, none⟩ (.int .i64 z)) k x y z :=
  heap_setCell_same _ k 2 _ _ _ (heap_setCell_same _ k 1 _ _ _ (heap_setCell_same w k 0 _ _ _ h))
theorem kept3 {w w1 : World} {k : Nat} (b : Below w.heap.size w w1) (_hk : k < w.heap.size) (x y z : Value) : Kept k w (((w1.setCell ⟨k, 0, none⟩ x).setCell ⟨k, 1, none⟩ y).setCell ⟨k, 2, none⟩ z) :=
  ⟨b.os, b.tape, b.output, by simpa [World.setCell] using b.size, fun j hj hs => by
    rw [Below.heap_setCell _ _ _ _ hj, Below.heap_setCell _ _ _ _ hj, Below.heap_setCell _ _ _ _ hj]
    exact b.block j hs⟩
theorem rate_ok (k : Nat) (m b r t r' : Int) (w : World) (h : CK w k m b r) (hi : CI m b r) (ht : tell m t = true) (hr : okR r' = true) :
    Calls Try.prog 16 #[.pointer (some ⟨k, 0, none⟩), .int .i64 t, .int .i64 r'] w fun e w' => e = .returned (.int .i64 0) ∧ CK w' k t (sh m b r t) r' ∧ Kept k w w' := by
  have HT := tell_iff.1 ht
  have S := shows_any k m b r t w h hi HT.2 HT.1.2
  clear HT hi
  go_enter Try.func16, Try.ntmps16
  go_wp2_with (first
    | (go_at_call 30; refine (tells_any k m b r t _ h).mono ?_; rintro e w' ⟨rfl, rfl⟩; rw [ht])
    | (go_at_call 29; refine (isRate_any _ _).mono ?_; rintro e w' ⟨rfl, rfl⟩; rw [hr])
    | (go_at_call 31; refine S.mono ?_; rintro e w1 ⟨rfl, b1⟩; have c1 := h.below b1; have g0 := c1.mark; have g1 := c1.base; have g2 := c1.rate; have f0 := frozen_of_row w1 k 0 _ _ c1; have f1 := frozen_of_row w1 k 1 _ _ c1; have f2 := frozen_of_row w1 k 2 _ _ c1))
  go_ret
  exact ⟨rfl, set3 c1 _ _ _, kept3 b1 h.lt _ _ _⟩
/-- What Rate or Set refuses. -/
theorem rate_bad (k : Nat) (m b r t r' : Int) (w : World) (h : CK w k m b r) (ht : (tell m t && okR r') = false) :
    Calls Try.prog 16 #[.pointer (some ⟨k, 0, none⟩), .int .i64 t, .int .i64 r'] w fun e w' => e = .returned (.int .i64 1) ∧ w = w' := by
  cases h1 : tell m t with
  | false =>
    clear ht
    go_enter Try.func16, Try.ntmps16
    go_wp2_with (first
      | (go_at_call 30; refine (tells_any k m b r t _ h).mono ?_; rintro e w' ⟨rfl, rfl⟩; rw [h1]))
    go_ret
    exact ⟨rfl, rfl⟩
  | true =>
    rw [h1, Bool.true_and] at ht
    go_enter Try.func16, Try.ntmps16
    go_wp2_with (first
      | (go_at_call 30; refine (tells_any k m b r t _ h).mono ?_; rintro e w' ⟨rfl, rfl⟩; rw [h1])
      | (go_at_call 29; refine (isRate_any _ _).mono ?_; rintro e w' ⟨rfl, rfl⟩; rw [ht]))
    go_ret
    exact ⟨rfl, rfl⟩
theorem rate_nil (t r : Int) (w : World) :
    Calls Try.prog 16 #[.pointer none, .int .i64 t, .int .i64 r] w fun e w' => e = .returned (.int .i64 1) ∧ w = w' := by
  go_enter Try.func16, Try.ntmps16
  go_wp2_with (first
    | (go_at_call 30; refine (tells_nil t _).mono ?_; rintro e w' ⟨rfl, rfl⟩))
  go_ret
  exact ⟨rfl, rfl⟩
theorem set_ok (k : Nat) (m b r t b' : Int) (w : World) (h : CK w k m b r) (ht : tell m t = true) (hr : okB b' = true) :
    Calls Try.prog 18 #[.pointer (some ⟨k, 0, none⟩), .int .i64 t, .int .i64 b'] w fun e w' => e = .returned (.int .i64 0) ∧ CK w' k t b' r ∧ Kept k w w' := by
  have g0 := h.mark
  have g1 := h.base
  have g2 := h.rate
  have f0 := frozen_of_row w k 0 _ _ h
  have f1 := frozen_of_row w k 1 _ _ h
  have f2 := frozen_of_row w k 2 _ _ h
  go_enter Try.func18, Try.ntmps18
  go_wp2_with (first
    | (go_at_call 30; refine (tells_any k m b r t _ h).mono ?_; rintro e w' ⟨rfl, rfl⟩; rw [ht])
    | (go_at_call 28; refine (isBase_any _ _).mono ?_; rintro e w' ⟨rfl, rfl⟩; rw [hr]))
  go_ret
  exact ⟨rfl, set3 h _ _ _, kept3 (Below.refl _ _) h.lt _ _ _⟩
theorem set_bad (k : Nat) (m b r t b' : Int) (w : World) (h : CK w k m b r) (ht : (tell m t && okB b') = false) :
    Calls Try.prog 18 #[.pointer (some ⟨k, 0, none⟩), .int .i64 t, .int .i64 b'] w fun e w' => e = .returned (.int .i64 1) ∧ w = w' := by
  cases h1 : tell m t with
  | false =>
    clear ht
    go_enter Try.func18, Try.ntmps18
    go_wp2_with (first
      | (go_at_call 30; refine (tells_any k m b r t _ h).mono ?_; rintro e w' ⟨rfl, rfl⟩; rw [h1]))
    go_ret
    exact ⟨rfl, rfl⟩
  | true =>
    rw [h1, Bool.true_and] at ht
    go_enter Try.func18, Try.ntmps18
    go_wp2_with (first
      | (go_at_call 30; refine (tells_any k m b r t _ h).mono ?_; rintro e w' ⟨rfl, rfl⟩; rw [h1])
      | (go_at_call 28; refine (isBase_any _ _).mono ?_; rintro e w' ⟨rfl, rfl⟩; rw [ht]))
    go_ret
    exact ⟨rfl, rfl⟩
theorem set_nil (t b : Int) (w : World) :
    Calls Try.prog 18 #[.pointer none, .int .i64 t, .int .i64 b] w fun e w' => e = .returned (.int .i64 1) ∧ w = w' := by
  go_enter Try.func18, Try.ntmps18
  go_wp2_with (first
    | (go_at_call 30; refine (tells_nil t _).mono ?_; rintro e w' ⟨rfl, rfl⟩))
  go_ret
  exact ⟨rfl, rfl⟩
theorem mark_any (k : Nat) (m b r : Int) (w : World) (h : CK w k m b r) :
    Calls Try.prog 22 #[.pointer (some ⟨k, 0, none⟩)] w fun e w' => e = .returned (.tuple #[.int .i64 m, .int .i64 b, .int .i64 r]) ∧ Below w.heap.size w w' := by
  have g0 := h.mark
  have g1 := h.base
  have g2 := h.rate
  go_enter Try.func22, Try.ntmps22
  go_wp2_with fail
  go_region
  go_wp2
  go_ret3
  exact ⟨rfl, (Below.refl _ _).drew⟩
theorem mark_nil (w : World) :
    Calls Try.prog 22 #[.pointer none] w fun e w' => e = .returned (.tuple #[.int .i64 0, .int .i64 0, .int .i64 0]) ∧ Below w.heap.size w w' := by
  go_enter Try.func22, Try.ntmps22
  go_wp2
  go_ret3
  exact ⟨rfl, Below.refl _ _⟩
end Go.Proofs.Ytmpceabhnhipcaa.ClockW
