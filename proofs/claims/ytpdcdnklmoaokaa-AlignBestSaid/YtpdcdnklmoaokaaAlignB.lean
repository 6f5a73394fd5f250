/- A cycle's beginning; by how much a frame sets the clock on; when a frame is expected. -/
import Derived.Test.YtpdcdnklmoaokaaTickAll
import Derived.Test.YtpdcdnklmoaokaaAlignA
namespace Go.Proofs.Ytpdcdnklmoaokaa.AlignW
open Go.RowKit Shell
open TickW (ansV ansV_in ansV_out ansV_tuple mul_any)
section
variable {w : World} {g : Nat} {y e a : Int} {B : Nat → Int} {C : Nat → Nat}
theorem begin_any (h : w.heap[g]? = some (abx y e a B C)) (n : Int) (hn : -9223372036854775808 ≤ n ∧ n ≤ 9223372036854775807) (hy : 1 ≤ y ∧ y ≤ 1073741824) :
    Calls Try.prog 17 #[.pointer (some ⟨g, 0, none⟩), .int .i64 n] w fun r w' => r = .returned (ansV (n * y)) ∧ Below w.heap.size w w' := by
  obtain ⟨a0, a1, a2, a3, a4, a5, a6⟩ := cells7 h
  have M := Lib.hid (fun W => mul_any n y hn.1 hn.2 (by omega) (by omega) W)
  clear hn hy h
  obtain ⟨p, k, hk⟩ := ansV_tuple (n * y)
  rw [hk] at M ⊢
  clear hk
  go_enter Try.func17, Try.ntmps17
  go_wp2_with (go_at_call 33; refine (M.out _).mono ?_; rintro e w1 ⟨rfl, b1⟩; have B1 := Lib.hid b1; clear b1)
  go_ret2
  exact ⟨rfl, B1.out⟩
theorem by_far (h : w.heap[g]? = some (abx y e a B C)) (n t : Int) (hn : 0 ≤ n ∧ n ≤ 1125899906842624) (hy : 1 ≤ y ∧ y ≤ 1073741824) (hp : 9223372036854775807 < n * y) :
    Calls Try.prog 20 #[.pointer (some ⟨g, 0, none⟩), .int .i64 n, .int .i64 t] w fun r w' => r = .returned (.tuple #[.int .i64 0, .bool false]) ∧ Below w.heap.size w w' := by
  have M := begin_any h n (by omega) hy
  rw [ansV_out _ (Or.inr hp)] at M
  have M := Lib.hid M
  clear hn hy hp h
  go_enter Try.func20, Try.ntmps20
  go_wp2_with (go_at_call 17; refine M.out.mono ?_; rintro e w1 ⟨rfl, b1⟩; have B1 := Lib.hid b1; clear b1)
  go_ret2
  exact ⟨rfl, B1.out⟩
theorem by_out (h : w.heap[g]? = some (abx y e a B C)) (hF : Fit y e a) (n t : Int) (hn : 0 ≤ n ∧ n ≤ 1125899906842624) (ht : 0 ≤ t ∧ t ≤ 1125899906842624) (hp : n * y ≤ 9223372036854775807) (hz : t - n * y < e - a ∨ e + a < t - n * y) :
    Calls Try.prog 20 #[.pointer (some ⟨g, 0, none⟩), .int .i64 n, .int .i64 t] w fun r w' => r = .returned (.tuple #[.int .i64 0, .bool false]) ∧ Below w.heap.size w w' := by
  obtain ⟨hy, he, ha⟩ := hF
  have h0 : 0 ≤ n * y := Int.mul_nonneg hn.1 (by omega)
  have M0 := begin_any h n (by omega) hy
  rw [ansV_in _ (by omega) hp] at M0
  have M := Lib.hid M0
  clear M0
  have H := Lib.hid h
  clear h hn
  generalize n * y = p at *
  have v1 : IntKind.i64.wrap (t - p) = t - p := by rw [IntKind.wrap_i64]; omega
  have v2 : IntKind.i64.wrap (e - a) = e - a := by rw [IntKind.wrap_i64]; omega
  have v3 : IntKind.i64.wrap (e + a) = e + a := by rw [IntKind.wrap_i64]; omega
  have v4 : wrap64 (t - p) = t - p := by unfold wrap64; omega
  have v5 : wrap64 (e - a) = e - a := by unfold wrap64; omega
  have v6 : wrap64 (e + a) = e + a := by unfold wrap64; omega
  clear hy he ha ht hp h0
  by_cases h1 : t - p < e - a
  · clear hz
    go_enter Try.func20, Try.ntmps20
    go_wp2_with (go_at_call 17; refine M.out.mono ?_; rintro e w1 ⟨rfl, b1⟩; have B1 := Lib.hid b1; have H1 := Lib.hid (row_below b1 H.out); clear b1; obtain ⟨a0, a1, a2, a3, a4, a5, a6⟩ := cells7 H1.out)
    have d1 : decide (t - p < e - a) = true := decide_eq_true h1
    clear h1 M
    go_region
    go_wp2
    go_ret2
    exact ⟨rfl, B1.out.drew⟩
  · have h2 : e + a < t - p := hz.resolve_left h1
    clear hz
    go_enter Try.func20, Try.ntmps20
    go_wp2_with (go_at_call 17; refine M.out.mono ?_; rintro e w1 ⟨rfl, b1⟩; have B1 := Lib.hid b1; have H1 := Lib.hid (row_below b1 H.out); clear b1; obtain ⟨a0, a1, a2, a3, a4, a5, a6⟩ := cells7 H1.out)
    have d1 : decide (t - p < e - a) = false := decide_eq_false (by omega)
    have d2 : decide (e + a < t - p) = true := decide_eq_true h2
    clear h1 h2 M
    go_region
    go_wp2
    go_ret2
    exact ⟨rfl, B1.out.drew⟩
set_option maxHeartbeats 2000000 in
theorem by_ok (h : w.heap[g]? = some (abx y e a B C)) (hF : Fit y e a) (n t : Int) (hn : 0 ≤ n ∧ n ≤ 1125899906842624) (ht : 0 ≤ t ∧ t ≤ 1125899906842624) (hp : n * y ≤ 9223372036854775807) (h1 : ¬ t - n * y < e - a) (h2 : ¬ e + a < t - n * y) :
    Calls Try.prog 20 #[.pointer (some ⟨g, 0, none⟩), .int .i64 n, .int .i64 t] w fun r w' => r = .returned (.tuple #[.int .i64 (e - (t - n * y)), .bool true]) ∧ Below w.heap.size w w' := by
  obtain ⟨hy, he, ha⟩ := hF
  have h0 : 0 ≤ n * y := Int.mul_nonneg hn.1 (by omega)
  have M0 := begin_any h n (by omega) hy
  rw [ansV_in _ (by omega) hp] at M0
  have M := Lib.hid M0
  clear M0
  have H := Lib.hid h
  clear h hn
  generalize n * y = p at *
  have v1 : IntKind.i64.wrap (t - p) = t - p := by rw [IntKind.wrap_i64]; omega
  have v2 : IntKind.i64.wrap (e - a) = e - a := by rw [IntKind.wrap_i64]; omega
  have v3 : IntKind.i64.wrap (e + a) = e + a := by rw [IntKind.wrap_i64]; omega
  have v4 : wrap64 (t - p) = t - p := by unfold wrap64; omega
  have v5 : wrap64 (e - (t - p)) = e - (t - p) := by unfold wrap64; omega
  clear hy he ha ht hp h0
  go_enter Try.func20, Try.ntmps20
  go_wp2_with (go_at_call 17; refine M.out.mono ?_; rintro e w1 ⟨rfl, b1⟩; have B1 := Lib.hid b1; have H1 := Lib.hid (row_below b1 H.out); clear b1; obtain ⟨a0, a1, a2, a3, a4, a5, a6⟩ := cells7 H1.out)
  have d1 : decide (t - p < e - a) = false := decide_eq_false (by omega)
  have d2 : decide (e + a < t - p) = false := decide_eq_false (by omega)
  clear h1 h2 M
  go_region
  go_wp2
  go_ret2
  exact ⟨by show Ending.returned (.tuple #[.int .i64 (wrap64 (e - (t - p))), .bool true]) = _; rw [v5], B1.out.drew⟩
/-- The local time at which a cycle's frame is expected, as Expected tells it. -/
def expV (y e n : Int) : Int := if 0 ≤ n ∧ n * y ≤ 1125899906842624 then n * y + e else 0
theorem expected_nil (n : Int) (w : World) : Calls Try.prog 9 #[.pointer none, .int .i64 n] w fun r w' => r = .returned (.int .i64 0) ∧ w = w' := by
  go_enter Try.func9, Try.ntmps9
  go_wp2
  go_ret
  exact ⟨rfl, rfl⟩
theorem expected_any (h : w.heap[g]? = some (abx y e a B C)) (hF : Fit y e a) (n : Int) (hn : -9223372036854775808 ≤ n ∧ n ≤ 9223372036854775807) :
    Calls Try.prog 9 #[.pointer (some ⟨g, 0, none⟩), .int .i64 n] w fun r w' => r = .returned (.int .i64 (expV y e n)) ∧ Below w.heap.size w w' := by
  obtain ⟨hy, he, ha⟩ := hF
  unfold expV
  by_cases h0 : n < 0
  · rw [if_neg (by omega)]
    clear hn
    go_enter Try.func9, Try.ntmps9
    go_wp2
    go_ret
    exact ⟨rfl, Below.refl _ _⟩
  · have M0 := begin_any h n hn hy
    have g0 : 0 ≤ n * y := Int.mul_nonneg (by omega) (by omega)
    have H := Lib.hid h
    by_cases h1 : n * y ≤ 9223372036854775807
    · rw [ansV_in _ (by omega) h1] at M0
      have M := Lib.hid M0
      clear M0 h
      generalize n * y = p at *
      by_cases h2 : p ≤ 1125899906842624
      · rw [if_pos ⟨by omega, h2⟩]
        have v5 : wrap64 (p + e) = p + e := by unfold wrap64; omega
        have h2' : ¬ 1125899906842624 < p := by omega
        clear hy he ha hn g0 h1 h2
        go_enter Try.func9, Try.ntmps9
        go_wp2_with (go_at_call 17; refine M.out.mono ?_; rintro e w1 ⟨rfl, b1⟩; have B1 := Lib.hid b1; have H1 := Lib.hid (row_below b1 H.out); clear b1; obtain ⟨a0, a1, a2, a3, a4, a5, a6⟩ := cells7 H1.out)
        go_ret
        exact ⟨by show Ending.returned (.int .i64 (wrap64 (p + e))) = _; rw [v5], B1.out⟩
      · rw [if_neg (by omega)]
        have h2' : 1125899906842624 < p := by omega
        clear hy he ha hn g0 h1 h2
        go_enter Try.func9, Try.ntmps9
        go_wp2_with (go_at_call 17; refine M.out.mono ?_; rintro e w1 ⟨rfl, b1⟩; have B1 := Lib.hid b1; clear b1)
        go_ret
        exact ⟨rfl, B1.out⟩
    · rw [ansV_out _ (Or.inr (by omega))] at M0
      rw [if_neg (by omega)]
      have M := Lib.hid M0
      clear M0 h hy he ha hn g0 h1
      go_enter Try.func9, Try.ntmps9
      go_wp2_with (go_at_call 17; refine M.out.mono ?_; rintro e w1 ⟨rfl, b1⟩; have B1 := Lib.hid b1; clear b1)
      go_ret
      exact ⟨rfl, B1.out⟩
theorem accept_nil (w : World) : Calls Try.prog 11 #[.pointer none] w fun r w' => r = .returned (.int .i64 0) ∧ w = w' := by
  go_enter Try.func11, Try.ntmps11
  go_wp2
  go_ret
  exact ⟨rfl, rfl⟩
theorem accept_any (h : w.heap[g]? = some (abx y e a B C)) :
    Calls Try.prog 11 #[.pointer (some ⟨g, 0, none⟩)] w fun r w' => r = .returned (.int .i64 a) ∧ w = w' := by
  obtain ⟨a0, a1, a2, a3, a4, a5, a6⟩ := cells7 h
  go_enter Try.func11, Try.ntmps11
  go_wp2
  go_ret
  exact ⟨rfl, rfl⟩
end
end Go.Proofs.Ytpdcdnklmoaokaa.AlignW
