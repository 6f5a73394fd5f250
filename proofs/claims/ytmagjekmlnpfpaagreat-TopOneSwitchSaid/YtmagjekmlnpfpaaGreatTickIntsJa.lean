/- A slice of int64 that came in, opened: the numbers that it holds; a row of our own as such numbers. -/
import Derived.Test.YtmagjekmlnpfpaaGreatTickLay
import Derived.Test.YtmagjekmlnpfpaaGreatTickSum
import Derived.Test.YtmagjekmlnpfpaaGreatTickOf
import Derived.Deep.Slices
import Derived.Laws.Cover2
import Derived.SizedLaws
import Derived.Test.YtmagjekmlnpfpaaGreatClockP
import Derived.Test.YtmagjekmlnpfpaaGreatStay
import Derived.Test.YtmagjekmlnpfpaaGreatOpen
namespace Go.Proofs.YtmagjekmlnpfpaaGreat.TickW
open Go.ChangeShapes Go.WideShapes Go.ChangeAt Go.RowKit
section
variable {P : Program} {H : Type} {enc : TypeId × Value → H}
end
def i64s (l : List Int) : List Value := l.map (Value.int .i64)
theorem IL.cells {w : World} {a : Addr} {xs : List Int} (h : IL w (some a) xs) (j : Nat) (u : Value) (hj : (i64s xs)[j]? = some u) : w.cell? (a.add j) = some u := by
  unfold i64s at hj
  rw [List.getElem?_map] at hj
  cases hx : xs[j]? with
  | none => rw [hx] at hj; cases hj
  | some x =>
    rw [hx] at hj
    obtain ⟨b, hb, hc, _⟩ := h j x hx
    cases hb
    cases hj
    exact hc
end Go.Proofs.YtmagjekmlnpfpaaGreat.TickW



/- The small functions of package clock, and those of the document's own answer: times, bases, rates; what a clock shows. -/
namespace Go.Proofs.YtmagjekmlnpfpaaGreat.ClockW
open Go.RowKit TickW
def inn (n lo hi : Int) : Bool := decide (lo ≤ n) && decide (n ≤ hi)
def okT (t : Int) : Bool := inn t 0 1125899906842624
def okB (t : Int) : Bool := inn t (-1125899906842624) 1125899906842624
def okR (t : Int) : Bool := inn t (-1000000) 1000000
theorem inn_iff {n lo hi : Int} : inn n lo hi = true ↔ lo ≤ n ∧ n ≤ hi := by unfold inn; simp
theorem okT_iff {n : Int} : okT n = true ↔ 0 ≤ n ∧ n ≤ 1125899906842624 := inn_iff
theorem okB_iff {n : Int} : okB n = true ↔ -1125899906842624 ≤ n ∧ n ≤ 1125899906842624 := inn_iff
theorem within_any (n lo hi : Int) (w : World) : Calls Tryz.prog 160 #[.int .i64 n, .int .i64 lo, .int .i64 hi] w fun e w' => e = .returned (.bool (inn n lo hi)) ∧ w = w' := by
  unfold inn
  by_cases h : lo ≤ n
  · rw [decide_eq_true h, Bool.true_and]
    go_enter Tryz.func160, Tryz.ntmps160
    go_wp2
    go_ret
    exact ⟨rfl, rfl⟩
  · rw [decide_eq_false h, Bool.false_and]
    go_enter Tryz.func160, Tryz.ntmps160
    go_wp2
    go_ret
    exact ⟨rfl, rfl⟩
theorem isTime_any (n : Int) (w : World) : Calls Tryz.prog 130 #[.int .i64 n] w fun e w' => e = .returned (.bool (okT n)) ∧ w = w' := by
  unfold okT
  go_enter Tryz.func130, Tryz.ntmps130
  go_wp2_with (go_at_call 160; refine (within_any _ _ _ _).mono ?_; rintro e w' ⟨rfl, rfl⟩)
  go_ret
  exact ⟨rfl, rfl⟩
theorem isBase_any (n : Int) (w : World) : Calls Tryz.prog 131 #[.int .i64 n] w fun e w' => e = .returned (.bool (okB n)) ∧ w = w' := by
  unfold okB
  go_enter Tryz.func131, Tryz.ntmps131
  go_wp2_with (go_at_call 160; refine (within_any _ _ _ _).mono ?_; rintro e w' ⟨rfl, rfl⟩)
  go_ret
  exact ⟨rfl, rfl⟩
theorem isRate_any (n : Int) (w : World) : Calls Tryz.prog 132 #[.int .i64 n] w fun e w' => e = .returned (.bool (okR n)) ∧ w = w' := by
  unfold okR
  go_enter Tryz.func132, Tryz.ntmps132
  go_wp2_with (go_at_call 160; refine (within_any _ _ _ _).mono ?_; rintro e w' ⟨rfl, rfl⟩)
  go_ret
  exact ⟨rfl, rfl⟩
/-- A clock's cells: mark, base, rate. -/
def CK (w : World) (k : Nat) (m b r : Int) : Prop := w.heap[k]? = some (.cells #[.int .i64 m, .int .i64 b, .int .i64 r] 194 (0, 0))
theorem CK.mark {w : World} {k : Nat} {m b r : Int} (h : CK w k m b r) : w.cell? ⟨k, 0, none⟩ = some (.int .i64 m) := cell_of_row w k 0 _ _ _ h
theorem CK.base {w : World} {k : Nat} {m b r : Int} (h : CK w k m b r) : w.cell? ⟨k, 1, none⟩ = some (.int .i64 b) := cell_of_row w k 1 _ _ _ h
theorem CK.rate {w : World} {k : Nat} {m b r : Int} (h : CK w k m b r) : w.cell? ⟨k, 2, none⟩ = some (.int .i64 r) := cell_of_row w k 2 _ _ _ h
theorem CK.lt {w : World} {k : Nat} {m b r : Int} (h : CK w k m b r) : k < w.heap.size := Lib.lt_of_cell h.mark
theorem CK.below {w w1 : World} {k : Nat} {m b r : Int} (h : CK w k m b r) (hb : Below w.heap.size w w1) : CK w1 k m b r := row_below hb h
/-- What the function says of a clock and a time. -/
def tell (m t : Int) : Bool := okT t && decide (m ≤ t)
theorem tell_iff {m t : Int} : tell m t = true ↔ (0 ≤ t ∧ t ≤ 1125899906842624) ∧ m ≤ t := by unfold tell; rw [Bool.and_eq_true, okT_iff, decide_eq_true_iff]
theorem tells_any (k : Nat) (m b r t : Int) (w : World) (h : CK w k m b r) : Calls Tryz.prog 107 #[.pointer (some ⟨k, 0, none⟩), .int .i64 t] w fun e w' => e = .returned (.bool (tell m t)) ∧ w = w' := by
  have c0 := h.mark
  unfold tell
  cases ho : okT t with
  | true =>
    rw [Bool.true_and]
    go_enter Tryz.func107, Tryz.ntmps107
    go_wp2_with (go_at_call 130; refine (isTime_any _ _).mono ?_; rintro e w' ⟨rfl, rfl⟩; rw [ho])
    go_ret
    exact ⟨rfl, rfl⟩
  | false =>
    rw [Bool.false_and]
    go_enter Tryz.func107, Tryz.ntmps107
    go_wp2_with (go_at_call 130; refine (isTime_any _ _).mono ?_; rintro e w' ⟨rfl, rfl⟩; rw [ho])
    go_ret
    exact ⟨rfl, rfl⟩
end Go.Proofs.YtmagjekmlnpfpaaGreat.ClockW



/- Package clock's functions at a clock that may be: New, Now, Rate, Set, When, Mark. -/
namespace Go.Proofs.YtmagjekmlnpfpaaGreat.ClockW
open Go.RowKit TickW Shell
theorem shows_any (k : Nat) (m b r t : Int) (w : World) (h : CK w k m b r) (hi : CI m b r) (h0 : m ≤ t) (h1 : t ≤ 1125899906842624) :
    Calls Tryz.prog 108 #[.pointer (some ⟨k, 0, none⟩), .int .i64 t] w fun e w' => e = .returned (.int .i64 (sh m b r t)) ∧ Below w.heap.size w w' := by
  have g := gone_range hi h0 h1
  have q := sh_range hi h0 h1
  obtain ⟨m0, m1, b0, b1, r0, r1⟩ := hi
  have eA : ansV ((t - m) * (1000000000 + r) / 1000000000) = .tuple #[.int .i64 ((t - m) * (1000000000 + r) / 1000000000), .int .i64 0] := ansV_in _ (by omega) (by omega)
  have M := fun W => muldiv_any (t - m) (1000000000 + r) 1000000000 (by omega) (by omega) (by omega) (by omega) (by omega) (by omega) W
  rw [eA] at M
  have eD : IntKind.i64.wrap (t - m) = t - m := by rw [IntKind.wrap_i64]; omega
  have eR : IntKind.i64.wrap (1000000000 + r) = 1000000000 + r := by rw [IntKind.wrap_i64]; omega
  unfold sh at *
  clear eA
  generalize (t - m) * (1000000000 + r) / 1000000000 = z at *
  have eS : wrap64 (b + z) = b + z := by unfold wrap64; omega
  have C := Lib.hid h
  have c0 := h.mark
  have c1 := h.base
  have c2 := h.rate
  have HM := Lib.hid (show ∀ W, Calls Tryz.prog 134 #[.int .i64 (IntKind.i64.wrap (t - m)), .int .i64 (IntKind.i64.wrap (1000000000 + r)), .int .i64 1000000000] W fun e w' => e = .returned (.tuple #[.int .i64 z, .int .i64 0]) ∧ Below W.heap.size W w' by rw [eD, eR]; exact M)
  clear eD eR h m0 m1 b0 b1 r0 r1 g q h0 h1 M
  go_enter Tryz.func108, Tryz.ntmps108
  go_wp2_with fail
  go_region_held3 (fun w' => w'.cell? ⟨k, 0, none⟩ = some (.int .i64 m) ∧ w'.cell? ⟨k, 1, none⟩ = some (.int .i64 b) ∧ w'.cell? ⟨k, 2, none⟩ = some (.int .i64 r)) (first | exact ⟨C.out.mark, C.out.base, C.out.rate⟩ | exact ⟨K1.out.mark, K1.out.base, K1.out.rate⟩) (first | (go_at_call 134; (with_reducible refine (HM.out _).mono ?_); rintro e w1 ⟨rfl, b1⟩; have K1 := Lib.hid (CK.below (w := w.drew) C.out b1); have B1 := Lib.hid (of_drew b1); clear b1))
  have d1 := K1.out.base
  go_wp2
  go_ret
  exact ⟨by show Ending.returned (.int .i64 (wrap64 (b + z))) = _; rw [eS], B1.out⟩
def okN (t b r : Int) : Bool := okT t && (okB b && okR r)
theorem new_ok (t b r : Int) (h : okN t b r = true) (w : World) :
    Calls Tryz.prog 79 #[.int .i64 t, .int .i64 b, .int .i64 r] w fun e w' => e = .returned (.tuple #[.pointer (some ⟨w.heap.size, 0, none⟩), .int .i64 0]) ∧ CK w' w.heap.size t b r ∧ Below w.heap.size w w' := by
  unfold okN at h
  rw [Bool.and_eq_true, Bool.and_eq_true] at h
  obtain ⟨h1, h2, h3⟩ := h
  go_enter Tryz.func79, Tryz.ntmps79
  go_wp2_with (first
    | (go_at_call 130; refine (isTime_any _ _).mono ?_; rintro e w' ⟨rfl, rfl⟩; rw [h1])
    | (go_at_call 131; refine (isBase_any _ _).mono ?_; rintro e w' ⟨rfl, rfl⟩; rw [h2])
    | (go_at_call 132; refine (isRate_any _ _).mono ?_; rintro e w' ⟨rfl, rfl⟩; rw [h3]))
  go_ret2
  exact ⟨rfl, heap_alloc_new _ _, (Below.refl _ _).alloc (Nat.le_refl _) _⟩
theorem new_bad (t b r : Int) (h : okN t b r = false) (w : World) :
    Calls Tryz.prog 79 #[.int .i64 t, .int .i64 b, .int .i64 r] w fun e w' => e = .returned (.tuple #[.pointer none, .int .i64 1]) ∧ w = w' := by
  unfold okN at h
  cases h1 : okT t with
  | false =>
    clear h
    go_enter Tryz.func79, Tryz.ntmps79
    go_wp2_with (first
      | (go_at_call 130; refine (isTime_any _ _).mono ?_; rintro e w' ⟨rfl, rfl⟩; rw [h1]))
    go_ret2
    exact ⟨rfl, rfl⟩
  | true =>
    rw [h1, Bool.true_and] at h
    cases h2 : okB b with
    | false =>
      clear h
      go_enter Tryz.func79, Tryz.ntmps79
      go_wp2_with (first
        | (go_at_call 130; refine (isTime_any _ _).mono ?_; rintro e w' ⟨rfl, rfl⟩; rw [h1])
        | (go_at_call 131; refine (isBase_any _ _).mono ?_; rintro e w' ⟨rfl, rfl⟩; rw [h2]))
      go_ret2
      exact ⟨rfl, rfl⟩
    | true =>
      rw [h2, Bool.true_and] at h
      go_enter Tryz.func79, Tryz.ntmps79
      go_wp2_with (first
        | (go_at_call 130; refine (isTime_any _ _).mono ?_; rintro e w' ⟨rfl, rfl⟩; rw [h1])
        | (go_at_call 131; refine (isBase_any _ _).mono ?_; rintro e w' ⟨rfl, rfl⟩; rw [h2])
        | (go_at_call 132; refine (isRate_any _ _).mono ?_; rintro e w' ⟨rfl, rfl⟩; rw [h]))
      go_ret2
      exact ⟨rfl, rfl⟩
theorem now_ok (k : Nat) (m b r t : Int) (w : World) (h : CK w k m b r) (hi : CI m b r) (ht : tell m t = true) :
    Calls Tryz.prog 54 #[.pointer (some ⟨k, 0, none⟩), .int .i64 t] w fun e w' => e = .returned (.tuple #[.int .i64 (sh m b r t), .int .i64 0]) ∧ Below w.heap.size w w' := by
  have HT := tell_iff.1 ht
  have S := shows_any k m b r t w h hi HT.2 HT.1.2
  clear HT hi
  go_enter Tryz.func54, Tryz.ntmps54
  go_wp2_with (first
    | (go_at_call 107; refine (tells_any k m b r t _ h).mono ?_; rintro e w' ⟨rfl, rfl⟩; rw [ht])
    | (go_at_call 108; refine S.mono ?_; rintro e w' ⟨rfl, b1⟩))
  go_ret2
  exact ⟨rfl, b1⟩
theorem now_bad (k : Nat) (m b r t : Int) (w : World) (h : CK w k m b r) (ht : tell m t = false) :
    Calls Tryz.prog 54 #[.pointer (some ⟨k, 0, none⟩), .int .i64 t] w fun e w' => e = .returned (.tuple #[.int .i64 0, .int .i64 1]) ∧ w = w' := by
  go_enter Tryz.func54, Tryz.ntmps54
  go_wp2_with (first
    | (go_at_call 107; refine (tells_any k m b r t _ h).mono ?_; rintro e w' ⟨rfl, rfl⟩; rw [ht]))
  go_ret2
  exact ⟨rfl, rfl⟩
theorem CK.kept {k j : Nat} {m b r : Int} {w w' : World} (h : CK w j m b r) (hk : Kept k w w') (hj : j ≠ k) : CK w' j m b r := (hk.block j hj h.lt).trans h
theorem set3 {w : World} {k : Nat} {m b r : Int} (h : CK w k m b r) (x y z : Int) : CK (((w.setCell ⟨k, 0, none⟩ (.int .i64 x)).setCell ⟨k, 1, none⟩ (.int .i64 y)).setCell ⟨k, 2, none⟩ (.int .i64 z)) k x y z :=
  heap_setCell_same _ k 2 _ _ _ (heap_setCell_same _ k 1 _ _ _ (heap_setCell_same w k 0 _ _ _ h))
theorem kept3 {w w1 : World} {k : Nat} (b : Below w.heap.size w w1) (_hk : k < w.heap.size) (x y z : Value) : Kept k w (((w1.setCell ⟨k, 0, none⟩ x).setCell ⟨k, 1, none⟩ y).setCell ⟨k, 2, none⟩ z) :=
  ⟨b.os, b.tape, b.output, by simpa [World.setCell] using b.size, fun j hj hs => by
    rw [Below.heap_setCell _ _ _ _ hj, Below.heap_setCell _ _ _ _ hj, Below.heap_setCell _ _ _ _ hj]
    exact b.block j hs⟩
theorem set_ok (k : Nat) (m b r t b' : Int) (w : World) (h : CK w k m b r) (ht : tell m t = true) (hr : okB b' = true) :
    Calls Tryz.prog 147 #[.pointer (some ⟨k, 0, none⟩), .int .i64 t, .int .i64 b'] w fun e w' => e = .returned (.int .i64 0) ∧ CK w' k t b' r ∧ Kept k w w' := by
  have g0 := h.mark
  have g1 := h.base
  have g2 := h.rate
  have f0 := frozen_of_row w k 0 _ _ h
  have f1 := frozen_of_row w k 1 _ _ h
  have f2 := frozen_of_row w k 2 _ _ h
  go_enter Tryz.func147, Tryz.ntmps147
  go_wp2_with (first
    | (go_at_call 107; refine (tells_any k m b r t _ h).mono ?_; rintro e w' ⟨rfl, rfl⟩; rw [ht])
    | (go_at_call 131; refine (isBase_any _ _).mono ?_; rintro e w' ⟨rfl, rfl⟩; rw [hr]))
  go_ret
  exact ⟨rfl, set3 h _ _ _, kept3 (Below.refl _ _) h.lt _ _ _⟩
theorem set_bad (k : Nat) (m b r t b' : Int) (w : World) (h : CK w k m b r) (ht : (tell m t && okB b') = false) :
    Calls Tryz.prog 147 #[.pointer (some ⟨k, 0, none⟩), .int .i64 t, .int .i64 b'] w fun e w' => e = .returned (.int .i64 1) ∧ w = w' := by
  cases h1 : tell m t with
  | false =>
    clear ht
    go_enter Tryz.func147, Tryz.ntmps147
    go_wp2_with (first
      | (go_at_call 107; refine (tells_any k m b r t _ h).mono ?_; rintro e w' ⟨rfl, rfl⟩; rw [h1]))
    go_ret
    exact ⟨rfl, rfl⟩
  | true =>
    rw [h1, Bool.true_and] at ht
    go_enter Tryz.func147, Tryz.ntmps147
    go_wp2_with (first
      | (go_at_call 107; refine (tells_any k m b r t _ h).mono ?_; rintro e w' ⟨rfl, rfl⟩; rw [h1])
      | (go_at_call 131; refine (isBase_any _ _).mono ?_; rintro e w' ⟨rfl, rfl⟩; rw [ht]))
    go_ret
    exact ⟨rfl, rfl⟩
theorem mark_any (k : Nat) (m b r : Int) (w : World) (h : CK w k m b r) :
    Calls Tryz.prog 94 #[.pointer (some ⟨k, 0, none⟩)] w fun e w' => e = .returned (.tuple #[.int .i64 m, .int .i64 b, .int .i64 r]) ∧ Below w.heap.size w w' := by
  have g0 := h.mark
  have g1 := h.base
  have g2 := h.rate
  go_enter Tryz.func94, Tryz.ntmps94
  go_wp2_with fail
  go_region
  go_wp2
  go_ret3
  exact ⟨rfl, (Below.refl _ _).drew⟩
end Go.Proofs.YtmagjekmlnpfpaaGreat.ClockW



/- Package clock's When; the document's own reckoning: At, Now, Rate, Set. -/
namespace Go.Proofs.YtmagjekmlnpfpaaGreat.ClockW
open Go.RowKit TickW Shell
theorem when_low (k : Nat) (m b r n : Int) (w : World) (h : CK w k m b r) (hn : n ≤ b) :
    Calls Tryz.prog 82 #[.pointer (some ⟨k, 0, none⟩), .int .i64 n] w fun e w' => e = .returned (.tuple #[.int .i64 m, .int .i64 0]) ∧ w = w' := by
  have g0 := h.mark
  have g1 := h.base
  go_enter Tryz.func82, Tryz.ntmps82
  go_wp2
  go_ret2
  exact ⟨rfl, rfl⟩
theorem when_none (k : Nat) (m b r n : Int) (w : World) (h : CK w k m b r) (hi : CI m b r) (hn : ¬ n ≤ b) (hs : sh m b r 1125899906842624 < n) :
    Calls Tryz.prog 82 #[.pointer (some ⟨k, 0, none⟩), .int .i64 n] w fun e w' => e = .returned (.tuple #[.int .i64 0, .int .i64 5]) ∧ Below w.heap.size w w' := by
  have S := shows_any k m b r 1125899906842624 w h hi hi.m1 (Int.le_refl _)
  have g0 := h.mark
  have g1 := h.base
  generalize sh m b r 1125899906842624 = z at *
  clear hi
  go_enter Tryz.func82, Tryz.ntmps82
  go_wp2_with (go_at_call 108; refine S.mono ?_; rintro e w1 ⟨rfl, b1⟩)
  go_ret2
  exact ⟨rfl, b1⟩
theorem when_ok (k : Nat) (m b r n : Int) (w : World) (h : CK w k m b r) (hi : CI m b r) (hn : ¬ n ≤ b) (hs : ¬ sh m b r 1125899906842624 < n) :
    Calls Tryz.prog 82 #[.pointer (some ⟨k, 0, none⟩), .int .i64 n] w fun e w' => e = .returned (.tuple #[.int .i64 (wh m b r n), .int .i64 0]) ∧ Below w.heap.size w w' := by
  have S := shows_any k m b r 1125899906842624 w h hi hi.m1 (Int.le_refl _)
  have W1 := wh_last (m := m) hi.r0 (Int.not_le.1 hn) (Int.not_lt.1 hs)
  obtain ⟨W0, W2, -, -⟩ := wh_high (m := m) hi.r0 (Int.not_le.1 hn)
  have hr := sh_range hi hi.m1 (Int.le_refl _)
  have hb := hi.base
  have g0 := h.mark
  have g1 := h.base
  have g2 := h.rate
  obtain ⟨m0, m1, b0, b1, r0, r1⟩ := hi
  generalize sh m b r 1125899906842624 = z at *
  have eA : ansV ((b - n) * 1000000000 / (1000000000 + r)) = .tuple #[.int .i64 ((b - n) * 1000000000 / (1000000000 + r)), .int .i64 0] := ansV_in _ (by omega) (by omega)
  have M := fun W => muldiv_any (b - n) 1000000000 (1000000000 + r) (by omega) (by omega) (by omega) (by omega) (by omega) (by omega) W
  rw [eA] at M
  have eD : IntKind.i64.wrap (b - n) = b - n := by rw [IntKind.wrap_i64]; omega
  have eR : IntKind.i64.wrap (1000000000 + r) = 1000000000 + r := by rw [IntKind.wrap_i64]; omega
  have eS : wrap64 (m - (b - n) * 1000000000 / (1000000000 + r)) = wh m b r n := by rw [← W0]; unfold wrap64; omega
  generalize (b - n) * 1000000000 / (1000000000 + r) = q at *
  have HM := Lib.hid (show ∀ W, Calls Tryz.prog 134 #[.int .i64 (IntKind.i64.wrap (b - n)), .int .i64 1000000000, .int .i64 (IntKind.i64.wrap (1000000000 + r))] W fun e w' => e = .returned (.tuple #[.int .i64 q, .int .i64 0]) ∧ Below W.heap.size W w' by rw [eD, eR]; exact M)
  have C := Lib.hid h
  have HW := Lib.hid eS
  have HS := Lib.hid S
  clear eD eR eA M W0 W1 W2 hr hb m0 m1 b0 b1 r0 r1 eS S h
  go_enter Tryz.func82, Tryz.ntmps82
  go_wp2_with fail
  refine HS.out.mono ?_
  rintro e w1 ⟨rfl, b1⟩
  have C1 := Lib.hid (C.out.below b1)
  have B1 := Lib.hid b1
  have a0 := C1.out.mark
  have a1 := C1.out.base
  have a2 := C1.out.rate
  clear b1
  go_wp2_with fail
  go_region_held3 (fun w' => w'.cell? ⟨k, 0, none⟩ = some (.int .i64 m) ∧ w'.cell? ⟨k, 1, none⟩ = some (.int .i64 b) ∧ w'.cell? ⟨k, 2, none⟩ = some (.int .i64 r)) (first | exact ⟨C1.out.mark, C1.out.base, C1.out.rate⟩ | exact ⟨K2.out.mark, K2.out.base, K2.out.rate⟩) (first | (go_at_call 134; (with_reducible refine (HM.out _).mono ?_); rintro e w2 ⟨rfl, b2⟩; have K2 := Lib.hid (CK.below (w := w1.drew) C1.out b2); have B2 := Lib.hid (of_drew b2); clear b2))
  have d1 := K2.out.mark
  go_wp2
  go_ret2
  exact ⟨by show Ending.returned (.tuple #[.int .i64 (wrap64 (m - q)), .int .i64 0]) = _; rw [HW.out], B1.out.trans (B2.out.mono B1.out.size)⟩
end Go.Proofs.YtmagjekmlnpfpaaGreat.ClockW



/- The document's own When: from a near time on, step by step. -/
namespace Go.Proofs.YtmagjekmlnpfpaaGreat.ClockW
open Go.RowKit TickW Shell
def RK (w : World) (k : Nat) (m b r : Int) : Prop := w.heap[k]? = some (.cells #[.int .i64 m, .int .i64 b, .int .i64 r] 67 (0, 0))
theorem RK.mark {w : World} {k : Nat} {m b r : Int} (h : RK w k m b r) : w.cell? ⟨k, 0, none⟩ = some (.int .i64 m) := cell_of_row w k 0 _ _ _ h
theorem RK.base {w : World} {k : Nat} {m b r : Int} (h : RK w k m b r) : w.cell? ⟨k, 1, none⟩ = some (.int .i64 b) := cell_of_row w k 1 _ _ _ h
theorem RK.rate {w : World} {k : Nat} {m b r : Int} (h : RK w k m b r) : w.cell? ⟨k, 2, none⟩ = some (.int .i64 r) := cell_of_row w k 2 _ _ _ h
theorem RK.below {w w1 : World} {k : Nat} {m b r : Int} (h : RK w k m b r) (hb : Below w.heap.size w w1) : RK w1 k m b r := row_below hb h
end Go.Proofs.YtmagjekmlnpfpaaGreat.ClockW



/- Package perm's Due, as it is walked for perm. -/
namespace Go.Proofs.YtmagjekmlnpfpaaGreat.RoundW
open Go.RowKit Shell
open ClockW (CK CI tell tell_iff sh wh sh_range now_ok now_bad when_low when_none when_ok)
/-- What Due tells: a time and an error. (ok: whether the clock tells t.) -/
def du (m b r t cl d : Int) (ok : Bool) : Int × Int :=
  if (0 ≤ d ∧ d ≤ 1048576) ∧ 0 ≤ cl ∧ cl ≤ d ∧ ok = true then (if sh m b r 1125899906842624 < sh m b r t + d - cl then (0, 5) else (wh m b r (sh m b r t + d - cl), 0)) else (0, 1)
def okD (d : Int) : Bool := decide (0 ≤ d) && decide (d ≤ 1048576)
theorem okD_iff {d : Int} : okD d = true ↔ 0 ≤ d ∧ d ≤ 1048576 := by unfold okD; simp
theorem isDelay_any (d : Int) (w : World) : Calls Tryz.prog 174 #[.int .i64 d] w fun e w' => e = .returned (.bool (okD d)) ∧ w = w' := by
  unfold okD
  by_cases h : 0 ≤ d
  · rw [decide_eq_true h, Bool.true_and]
    go_enter Tryz.func174, Tryz.ntmps174
    go_wp2
    go_ret
    exact ⟨rfl, rfl⟩
  · rw [decide_eq_false h, Bool.false_and]
    go_enter Tryz.func174, Tryz.ntmps174
    go_wp2
    go_ret
    exact ⟨rfl, rfl⟩
theorem due_bad (A : Option Addr) (t cl d : Int) (h : ¬ ((0 ≤ d ∧ d ≤ 1048576) ∧ 0 ≤ cl ∧ cl ≤ d)) (w : World) :
    Calls Tryz.prog 142 #[.pointer A, .int .i64 t, .int .i64 cl, .int .i64 d] w fun e w' => e = .returned (.tuple #[.int .i64 0, .int .i64 1]) ∧ w = w' := by
  cases hd : okD d with
  | false =>
    clear h
    go_enter Tryz.func142, Tryz.ntmps142
    go_wp2_with (go_at_call 174; refine (isDelay_any _ _).mono ?_; rintro e w' ⟨rfl, rfl⟩; rw [hd])
    go_ret2
    exact ⟨rfl, rfl⟩
  | true =>
    have hd' := okD_iff.1 hd
    by_cases h0 : cl < 0
    · clear h hd'
      go_enter Tryz.func142, Tryz.ntmps142
      go_wp2_with (go_at_call 174; refine (isDelay_any _ _).mono ?_; rintro e w' ⟨rfl, rfl⟩; rw [hd])
      go_ret2
      exact ⟨rfl, rfl⟩
    · have h1 : d < cl := by omega
      clear h hd'
      go_enter Tryz.func142, Tryz.ntmps142
      go_wp2_with (go_at_call 174; refine (isDelay_any _ _).mono ?_; rintro e w' ⟨rfl, rfl⟩; rw [hd])
      go_ret2
      exact ⟨rfl, rfl⟩
theorem due_now (k : Nat) (m b r t cl d : Int) (w : World) (h : CK w k m b r) (ht : tell m t = false) :
    Calls Tryz.prog 142 #[.pointer (some ⟨k, 0, none⟩), .int .i64 t, .int .i64 cl, .int .i64 d] w fun e w' => e = .returned (.tuple #[.int .i64 0, .int .i64 1]) ∧ w = w' := by
  by_cases g : (0 ≤ d ∧ d ≤ 1048576) ∧ 0 ≤ cl ∧ cl ≤ d
  · obtain ⟨hd, h0, h1⟩ := g
    have hd := okD_iff.2 hd
    go_enter Tryz.func142, Tryz.ntmps142
    go_wp2_with (first
      | (go_at_call 174; refine (isDelay_any _ _).mono ?_; rintro e w' ⟨rfl, rfl⟩; rw [hd])
      | (go_at_call 54; refine (now_bad k m b r t _ h ht).mono ?_; rintro e w' ⟨rfl, rfl⟩))
    go_ret2
    exact ⟨rfl, rfl⟩
  · exact due_bad _ t cl d g w
/-- What Due answers, as a tuple. -/
abbrev duT (a : Int × Int) : Value := .tuple #[.int .i64 a.1, .int .i64 a.2]
theorem due_any (k : Nat) (m b r t cl d : Int) (w : World) (h : CK w k m b r) (hi : CI m b r) :
    Calls Tryz.prog 142 #[.pointer (some ⟨k, 0, none⟩), .int .i64 t, .int .i64 cl, .int .i64 d] w fun e w' => e = .returned (duT (du m b r t cl d (tell m t))) ∧ Below w.heap.size w w' := by
  cases ht : tell m t with
  | false =>
    refine (due_now k m b r t cl d w h ht).mono ?_
    rintro e w' ⟨rfl, rfl⟩
    exact ⟨by unfold du; rw [if_neg (by simp)], Below.refl _ _⟩
  | true =>
    by_cases g : (0 ≤ d ∧ d ≤ 1048576) ∧ 0 ≤ cl ∧ cl ≤ d
    · obtain ⟨hd, h0, h1⟩ := g
      have HT := tell_iff.1 ht
      have hr := sh_range hi HT.2 HT.1.2
      have D : du m b r t cl d true = (if sh m b r 1125899906842624 < sh m b r t + d - cl then (0, 5) else (wh m b r (sh m b r t + d - cl), 0)) := if_pos ⟨hd, h0, h1, rfl⟩
      have N := now_ok k m b r t w h hi ht
      have d0 := hd.1
      have d1 := hd.2
      have hd := okD_iff.2 hd
      have e1 : IntKind.i64.wrap (sh m b r t + d) = sh m b r t + d := by rw [IntKind.wrap_i64]; omega
      have e2 : IntKind.i64.wrap (sh m b r t + d - cl) = sh m b r t + d - cl := by rw [IntKind.wrap_i64]; omega
      by_cases low : sh m b r t + d - cl ≤ b
      · have nl : ¬ sh m b r 1125899906842624 < sh m b r t + d - cl := by
          have := (ClockW.sh_bounds hi hi.m1).1
          omega
        rw [D, if_neg nl, ClockW.wh_low low]
        have W1 := fun W (hb : Below w.heap.size w W) => when_low k m b r (sh m b r t + d - cl) W (h.below hb) low
        have HN := Lib.hid N
        have HW := Lib.hid W1
        clear N W1 D nl low h hi HT
        generalize sh m b r t = z at *
        go_enter Tryz.func142, Tryz.ntmps142
        go_wp2_with (first
          | (go_at_call 174; refine (isDelay_any _ _).mono ?_; rintro e w' ⟨rfl, rfl⟩; rw [hd])
          | (go_at_call 54; refine HN.out.mono ?_; rintro e w1 ⟨rfl, b1⟩; have B1 := Lib.hid b1; clear b1)
          | (go_at_call 82; refine (HW.out _ B1.out).mono ?_; rintro e w2 ⟨rfl, rfl⟩))
        go_ret2
        exact ⟨rfl, B1.out⟩
      · by_cases no : sh m b r 1125899906842624 < sh m b r t + d - cl
        · rw [D, if_pos no]
          have W1 := fun W (hb : Below w.heap.size w W) => when_none k m b r (sh m b r t + d - cl) W (h.below hb) hi low no
          have HN := Lib.hid N
          have HW := Lib.hid W1
          clear N W1 D no low h hi HT
          generalize sh m b r t = z at *
          go_enter Tryz.func142, Tryz.ntmps142
          go_wp2_with (first
            | (go_at_call 174; refine (isDelay_any _ _).mono ?_; rintro e w' ⟨rfl, rfl⟩; rw [hd])
            | (go_at_call 54; refine HN.out.mono ?_; rintro e w1 ⟨rfl, b1⟩; have B1 := Lib.hid b1; clear b1)
            | (go_at_call 82; refine (HW.out _ B1.out).mono ?_; rintro e w2 ⟨rfl, b2⟩))
          go_ret2
          exact ⟨rfl, B1.out.trans (b2.mono B1.out.size)⟩
        · rw [D, if_neg no]
          have W1 := fun W (hb : Below w.heap.size w W) => when_ok k m b r (sh m b r t + d - cl) W (h.below hb) hi low no
          have HN := Lib.hid N
          have HW := Lib.hid W1
          clear N W1 D no low h hi HT
          generalize sh m b r t = z at *
          go_enter Tryz.func142, Tryz.ntmps142
          go_wp2_with (first
            | (go_at_call 174; refine (isDelay_any _ _).mono ?_; rintro e w' ⟨rfl, rfl⟩; rw [hd])
            | (go_at_call 54; refine HN.out.mono ?_; rintro e w1 ⟨rfl, b1⟩; have B1 := Lib.hid b1; clear b1)
            | (go_at_call 82; refine (HW.out _ B1.out).mono ?_; rintro e w2 ⟨rfl, b2⟩))
          go_ret2
          exact ⟨rfl, B1.out.trans (b2.mono B1.out.size)⟩
    · refine (due_bad _ t cl d g w).mono ?_
      rintro e w' ⟨rfl, rfl⟩
      exact ⟨by unfold du; rw [if_neg (fun h => g ⟨h.1, h.2.1, h.2.2.1⟩)], Below.refl _ _⟩
end Go.Proofs.YtmagjekmlnpfpaaGreat.RoundW


/- Plain mathematics: a list of whole numbers in rising order; merging; what stands where; means of two. -/
namespace Go.Proofs.YtmagjekmlnpfpaaGreat.MeanW
open Go.RowKit TickW
def leI (x y : Int) : Bool := decide (x ≤ y)
/-- In rising order. -/
def srt (l : List Int) : List Int := l.mergeSort leI
theorem leI_trans (a b c : Int) (h1 : leI a b = true) (h2 : leI b c = true) : leI a c = true := by unfold leI at *; simp at *; omega
theorem leI_total (a b : Int) : (leI a b || leI b a) = true := by unfold leI; simp; omega
theorem srt_perm (l : List Int) : (srt l).Perm l := List.mergeSort_perm l leI
theorem srt_len (l : List Int) : (srt l).length = l.length := (srt_perm l).length_eq
theorem srt_up (l : List Int) : (srt l).Pairwise (fun a b => a ≤ b) :=
  (List.pairwise_mergeSort leI_trans leI_total l).imp (fun h => by unfold leI at h; simpa using h)
theorem up_unique {xs ys : List Int} (hp : xs.Perm ys) (h1 : xs.Pairwise (fun a b => a ≤ b)) (h2 : ys.Pairwise (fun a b => a ≤ b)) : xs = ys :=
  List.Perm.eq_of_pairwise (fun _ _ _ _ hab hba => Int.le_antisymm hab hba) h1 h2 hp
theorem srt_of {xs l : List Int} (hp : xs.Perm l) (h : xs.Pairwise (fun a b => a ≤ b)) : xs = srt l := up_unique (hp.trans (srt_perm l).symm) h (srt_up l)
theorem srt_same {l m : List Int} (h : l.Perm m) : srt l = srt m := srt_of ((srt_perm l).trans h) (srt_up l)
theorem srt_mem {l : List Int} {x : Int} : x ∈ srt l ↔ x ∈ l := (srt_perm l).mem_iff
/-- Whole numbers of 64 bits. -/
def B64 (x : Int) : Prop := -9223372036854775808 ≤ x ∧ x ≤ 9223372036854775807
theorem IL.bounds {w : World} {A : Option Addr} {xs : List Int} (h : IL w A xs) : ∀ x ∈ xs, B64 x := fun x hx => by
  obtain ⟨j, hj⟩ := List.getElem?_of_mem hx
  obtain ⟨_, _, _, hb⟩ := h j x hj
  exact hb
theorem srt_bounds {xs : List Int} (h : ∀ x ∈ xs, B64 x) : ∀ x ∈ srt xs, B64 x := fun x hx => h x (srt_mem.1 hx)
theorem up_at {l : List Int} (h : l.Pairwise (fun a b => a ≤ b)) {i j : Nat} (hij : i ≤ j) (hj : j < l.length) : l.getD i 0 ≤ l.getD j 0 := by
  rw [List.getD_eq_getElem?_getD, List.getD_eq_getElem?_getD, List.getElem?_eq_getElem (by omega), List.getElem?_eq_getElem hj]
  simp only [Option.getD_some]
  rcases Nat.lt_or_ge i j with h1 | h1
  · exact List.pairwise_iff_getElem.1 h i j (by omega) hj h1
  · obtain rfl : i = j := by omega
    exact Int.le_refl _
theorem getD_mem {l : List Int} {i : Nat} (h : i < l.length) : l.getD i 0 ∈ l := by
  rw [List.getD_eq_getElem?_getD, List.getElem?_eq_getElem h]
  exact List.getElem_mem h
theorem getD_at {l : List Int} {i : Nat} (h : i < l.length) : l[i]? = some (l.getD i 0) := by
  rw [List.getD_eq_getElem?_getD, List.getElem?_eq_getElem h]; rfl
end Go.Proofs.YtmagjekmlnpfpaaGreat.MeanW


