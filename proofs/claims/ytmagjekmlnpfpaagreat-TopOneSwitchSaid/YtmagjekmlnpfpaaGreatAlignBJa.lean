/- A cycle's beginning; by how much a frame sets the clock on; when a frame is expected. -/
import Derived.Test.YtmagjekmlnpfpaaGreatTickDivJa
import Derived.Test.YtmagjekmlnpfpaaGreatTickSum
import Derived.Test.YtmagjekmlnpfpaaGreatTickIntsJa
import Derived.Test.YtmagjekmlnpfpaaGreatAlignAJa
namespace Go.Proofs.YtmagjekmlnpfpaaGreat.AlignW
open Go.RowKit Shell
open TickW (ansV ansV_in ansV_out ansV_tuple mul_any)
section
variable {w : World} {g : Nat} {y e a : Int} {B : Nat → Int} {C : Nat → Nat}
theorem begin_any (h : w.heap[g]? = some (abx y e a B C)) (n : Int) (hn : -9223372036854775808 ≤ n ∧ n ≤ 9223372036854775807) (hy : 1 ≤ y ∧ y ≤ 1073741824) :
    Calls Tryz.prog 148 #[.pointer (some ⟨g, 0, none⟩), .int .i64 n] w fun r w' => r = .returned (ansV (n * y)) ∧ Below w.heap.size w w' := by
  obtain ⟨a0, a1, a2, a3, a4, a5, a6⟩ := cells7 h
  have M := Lib.hid (fun W => mul_any n y hn.1 hn.2 (by omega) (by omega) W)
  clear hn hy h
  obtain ⟨p, k, hk⟩ := ansV_tuple (n * y)
  rw [hk] at M ⊢
  clear hk
  go_enter Tryz.func148, Tryz.ntmps148
  go_wp2_with (go_at_call 177; refine (M.out _).mono ?_; rintro e w1 ⟨rfl, b1⟩; have B1 := Lib.hid b1; clear b1)
  go_ret2
  exact ⟨rfl, B1.out⟩
theorem by_far (h : w.heap[g]? = some (abx y e a B C)) (n t : Int) (hn : 0 ≤ n ∧ n ≤ 1125899906842624) (hy : 1 ≤ y ∧ y ≤ 1073741824) (hp : 9223372036854775807 < n * y) :
    Calls Tryz.prog 145 #[.pointer (some ⟨g, 0, none⟩), .int .i64 n, .int .i64 t] w fun r w' => r = .returned (.tuple #[.int .i64 0, .bool false]) ∧ Below w.heap.size w w' := by
  have M := begin_any h n (by omega) hy
  rw [ansV_out _ (Or.inr hp)] at M
  have M := Lib.hid M
  clear hn hy hp h
  go_enter Tryz.func145, Tryz.ntmps145
  go_wp2_with (go_at_call 148; refine M.out.mono ?_; rintro e w1 ⟨rfl, b1⟩; have B1 := Lib.hid b1; clear b1)
  go_ret2
  exact ⟨rfl, B1.out⟩
theorem by_out (h : w.heap[g]? = some (abx y e a B C)) (hF : Fit y e a) (n t : Int) (hn : 0 ≤ n ∧ n ≤ 1125899906842624) (ht : 0 ≤ t ∧ t ≤ 1125899906842624) (hp : n * y ≤ 9223372036854775807) (hz : t - n * y < e - a ∨ e + a < t - n * y) :
    Calls Tryz.prog 145 #[.pointer (some ⟨g, 0, none⟩), .int .i64 n, .int .i64 t] w fun r w' => r = .returned (.tuple #[.int .i64 0, .bool false]) ∧ Below w.heap.size w w' := by
  obtain ⟨hy, he, ha⟩ := hF
  have h0 : 0 ≤ n * y := Int.mul_nonneg hn.1 (by omega)
  have M0 := begin_any h n (by omega) hy
  rw [ansV_in _ (by omega) hp] at M0
  have M := Lib.hid M0
  clear M0
  have H := Lib.hid h
  clear h hn
  generalize n * y = p at *
  have v1 : IntKind.i64.wrap (t - p) = t - p := by rw [IntKind.wrap_i64]; omega
  have v2 : IntKind.i64.wrap (e - a) = e - a := by rw [IntKind.wrap_i64]; omega
  have v3 : IntKind.i64.wrap (e + a) = e + a := by rw [IntKind.wrap_i64]; omega
  have v4 : wrap64 (t - p) = t - p := by unfold wrap64; omega
  have v5 : wrap64 (e - a) = e - a := by unfold wrap64; omega
  have v6 : wrap64 (e + a) = e + a := by unfold wrap64; omega
  clear hy he ha ht hp h0
  by_cases h1 : t - p < e - a
  · clear hz
    go_enter Tryz.func145, Tryz.ntmps145
    go_wp2_with (go_at_call 148; refine M.out.mono ?_; rintro e w1 ⟨rfl, b1⟩; have B1 := Lib.hid b1; have H1 := Lib.hid (row_below b1 H.out); clear b1; obtain ⟨a0, a1, a2, a3, a4, a5, a6⟩ := cells7 H1.out)
    have d1 : decide (t - p < e - a) = true := decide_eq_true h1
    clear h1 M
    go_region
    go_wp2
    go_ret2
    exact ⟨rfl, B1.out.drew⟩
  · have h2 : e + a < t - p := hz.resolve_left h1
    clear hz
    go_enter Tryz.func145, Tryz.ntmps145
    go_wp2_with (go_at_call 148; refine M.out.mono ?_; rintro e w1 ⟨rfl, b1⟩; have B1 := Lib.hid b1; have H1 := Lib.hid (row_below b1 H.out); clear b1; obtain ⟨a0, a1, a2, a3, a4, a5, a6⟩ := cells7 H1.out)
    have d1 : decide (t - p < e - a) = false := decide_eq_false (by omega)
    have d2 : decide (e + a < t - p) = true := decide_eq_true h2
    clear h1 h2 M
    go_region
    go_wp2
    go_ret2
    exact ⟨rfl, B1.out.drew⟩
set_option maxHeartbeats 2000000 in
theorem by_ok (h : w.heap[g]? = some (abx y e a B C)) (hF : Fit y e a) (n t : Int) (hn : 0 ≤ n ∧ n ≤ 1125899906842624) (ht : 0 ≤ t ∧ t ≤ 1125899906842624) (hp : n * y ≤ 9223372036854775807) (h1 : ¬ t - n * y < e - a) (h2 : ¬ e + a < t - n * y) :
    Calls Tryz.prog 145 #[.pointer (some ⟨g, 0, none⟩), .int .i64 n, .int .i64 t] w fun r w' => r = .returned (.tuple #[.int .i64 (e - (t - n * y)), .bool true]) ∧ Below w.heap.size w w' := by
  obtain ⟨hy, he, ha⟩ := hF
  have h0 : 0 ≤ n * y := Int.mul_nonneg hn.1 (by omega)
  have M0 := begin_any h n (by omega) hy
  rw [ansV_in _ (by omega) hp] at M0
  have M := Lib.hid M0
  clear M0
  have H := Lib.hid h
  clear h hn
  generalize n * y = p at *
  have v1 : IntKind.i64.wrap (t - p) = t - p := by rw [IntKind.wrap_i64]; omega
  have v2 : IntKind.i64.wrap (e - a) = e - a := by rw [IntKind.wrap_i64]; omega
  have v3 : IntKind.i64.wrap (e + a) = e + a := by rw [IntKind.wrap_i64]; omega
  have v4 : wrap64 (t - p) = t - p := by unfold wrap64; omega
  have v5 : wrap64 (e - (t - p)) = e - (t - p) := by unfold wrap64; omega
  clear hy he ha ht hp h0
  go_enter Tryz.func145, Tryz.ntmps145
  go_wp2_with (go_at_call 148; refine M.out.mono ?_; rintro e w1 ⟨rfl, b1⟩; have B1 := Lib.hid b1; have H1 := Lib.hid (row_below b1 H.out); clear b1; obtain ⟨a0, a1, a2, a3, a4, a5, a6⟩ := cells7 H1.out)
  have d1 : decide (t - p < e - a) = false := decide_eq_false (by omega)
  have d2 : decide (e + a < t - p) = false := decide_eq_false (by omega)
  clear h1 h2 M
  go_region
  go_wp2
  go_ret2
  exact ⟨by show Ending.returned (.tuple #[.int .i64 (wrap64 (e - (t - p))), .bool true]) = _; rw [v5], B1.out.drew⟩
/-- The local time at which a cycle's frame is expected, as Expected tells it. -/
def expV (y e n : Int) : Int := if 0 ≤ n ∧ n * y ≤ 1125899906842624 then n * y + e else 0
theorem expected_any (h : w.heap[g]? = some (abx y e a B C)) (hF : Fit y e a) (n : Int) (hn : -9223372036854775808 ≤ n ∧ n ≤ 9223372036854775807) :
    Calls Tryz.prog 92 #[.pointer (some ⟨g, 0, none⟩), .int .i64 n] w fun r w' => r = .returned (.int .i64 (expV y e n)) ∧ Below w.heap.size w w' := by
  obtain ⟨hy, he, ha⟩ := hF
  unfold expV
  by_cases h0 : n < 0
  · rw [if_neg (by omega)]
    clear hn
    go_enter Tryz.func92, Tryz.ntmps92
    go_wp2
    go_ret
    exact ⟨rfl, Below.refl _ _⟩
  · have M0 := begin_any h n hn hy
    have g0 : 0 ≤ n * y := Int.mul_nonneg (by omega) (by omega)
    have H := Lib.hid h
    by_cases h1 : n * y ≤ 9223372036854775807
    · rw [ansV_in _ (by omega) h1] at M0
      have M := Lib.hid M0
      clear M0 h
      generalize n * y = p at *
      by_cases h2 : p ≤ 1125899906842624
      · rw [if_pos ⟨by omega, h2⟩]
        have v5 : wrap64 (p + e) = p + e := by unfold wrap64; omega
        have h2' : ¬ 1125899906842624 < p := by omega
        clear hy he ha hn g0 h1 h2
        go_enter Tryz.func92, Tryz.ntmps92
        go_wp2_with (go_at_call 148; refine M.out.mono ?_; rintro e w1 ⟨rfl, b1⟩; have B1 := Lib.hid b1; have H1 := Lib.hid (row_below b1 H.out); clear b1; obtain ⟨a0, a1, a2, a3, a4, a5, a6⟩ := cells7 H1.out)
        go_ret
        exact ⟨by show Ending.returned (.int .i64 (wrap64 (p + e))) = _; rw [v5], B1.out⟩
      · rw [if_neg (by omega)]
        have h2' : 1125899906842624 < p := by omega
        clear hy he ha hn g0 h1 h2
        go_enter Tryz.func92, Tryz.ntmps92
        go_wp2_with (go_at_call 148; refine M.out.mono ?_; rintro e w1 ⟨rfl, b1⟩; have B1 := Lib.hid b1; clear b1)
        go_ret
        exact ⟨rfl, B1.out⟩
    · rw [ansV_out _ (Or.inr (by omega))] at M0
      rw [if_neg (by omega)]
      have M := Lib.hid M0
      clear M0 h hy he ha hn g0 h1
      go_enter Tryz.func92, Tryz.ntmps92
      go_wp2_with (go_at_call 148; refine M.out.mono ?_; rintro e w1 ⟨rfl, b1⟩; have B1 := Lib.hid b1; clear b1)
      go_ret
      exact ⟨rfl, B1.out⟩
theorem accept_any (h : w.heap[g]? = some (abx y e a B C)) :
    Calls Tryz.prog 93 #[.pointer (some ⟨g, 0, none⟩)] w fun r w' => r = .returned (.int .i64 a) ∧ w = w' := by
  obtain ⟨a0, a1, a2, a3, a4, a5, a6⟩ := cells7 h
  go_enter Tryz.func93, Tryz.ntmps93
  go_wp2
  go_ret
  exact ⟨rfl, rfl⟩
end
end Go.Proofs.YtmagjekmlnpfpaaGreat.AlignW



/- Hear. -/
namespace Go.Proofs.YtmagjekmlnpfpaaGreat.AlignW
open Go.RowKit Shell
open FrameW (CV rightC)
def upd {α : Type} (B : Nat → α) (i : Nat) (v : α) : Nat → α := fun j => if j = i then v else B j
section
variable {w : World} {g : Nat} {y e a : Int} {B : Nat → Int} {C : Nat → Nat}
theorem hear_arg (P : Addr) (n t k f y2 c l : Int) (hc : 0 ≤ c) (h : okT n = false ∨ okT t = false ∨ okF k f y2 c l = false) (w : World) : Calls Tryz.prog 88 #[.pointer (some P), .int .i64 n, .int .i64 t, CV k f y2 c l] w fun r w' => r = .returned (.int .i64 1) ∧ Below w.heap.size w w' := by
  have X := Lib.hid ((Stay.start w).alloc (.cells #[.int .i64 k, .int .i64 f, .int .i64 y2, .int .u32 c, .int .i64 l] 157 (0, 0)))
  have IC := Lib.hid (fun W => isCompressed_any k f y2 c l hc W)
  have XA := Lib.hid (FrameW.cells5 (X.out.at 0 rfl))
  obtain ⟨c0, c1, c2, c3, c4⟩ := XA.out
  cases T1 : okT n with
  | false =>
    clear h
    go_enter Tryz.func88, Tryz.ntmps88
    go_wp2_with (go_at_call 143; refine (isTime_any _ _).mono ?_; rintro r w' ⟨rfl, rfl⟩; first | rw [T1] | rw [T2])
    go_ret
    exact ⟨rfl, X.out.b⟩
  | true =>
    cases T2 : okT t with
    | false =>
      clear h
      go_enter Tryz.func88, Tryz.ntmps88
      go_wp2_with (go_at_call 143; refine (isTime_any _ _).mono ?_; rintro r w' ⟨rfl, rfl⟩; first | rw [T1] | rw [T2])
      go_ret
      exact ⟨rfl, X.out.b⟩
    | true =>
      have F : okF k f y2 c l = false := by rcases h with h | h | h
                                            · rw [T1] at h; cases h
                                            · rw [T2] at h; cases h
                                            · exact h
      rw [F] at IC
      clear h F
      go_enter Tryz.func88, Tryz.ntmps88
      go_wp2_with (first
        | (go_at_call 143; refine (isTime_any _ _).mono ?_; rintro r w' ⟨rfl, rfl⟩; first | rw [T1] | rw [T2])
        | (go_at_call 144; refine (IC.out _).mono ?_; rintro r w1 ⟨rfl, b1⟩; have X1 := Lib.hid (X.out.next b1); clear b1; obtain ⟨c0, c1, c2, c3, c4⟩ := FrameW.cells5 (X1.out.at 0 rfl)))
      go_ret
      exact ⟨rfl, X1.out.b⟩
set_option maxHeartbeats 2000000 in
theorem hear_there0 (h : w.heap[g]? = some (abx y e a B C)) (n t k y2 c l : Int) (T1 : okT n = true) (T2 : okT t = true) (F : okF k 6 y2 c l = true) (hi : C 0 ≠ 0) :
    Calls Tryz.prog 88 #[.pointer (some ⟨g, 0, none⟩), .int .i64 n, .int .i64 t, CV k 6 y2 c l] w fun r w' => r = .returned (.int .i64 7) ∧ Below w.heap.size w w' := by
  have hc : 0 ≤ c := by have := (okF_iff.1 F).1; unfold rightC at this; omega
  have IC := Lib.hid (fun W => isCompressed_any k 6 y2 c l hc W)
  rw [F] at IC
  have X := Lib.hid (((Stay.start w).add h).alloc (.cells #[.int .i64 k, .int .i64 6, .int .i64 y2, .int .u32 c, .int .i64 l] 157 (0, 0)))
  obtain ⟨c0, c1, c2, c3, c4⟩ := FrameW.cells5 (X.out.at 0 rfl)
  have e1 : (((C 0 : Nat) : Int) != 0) = true := by rw [bne_iff_ne]; omega
  clear h hc F hi
  go_enter Tryz.func88, Tryz.ntmps88
  go_wp2_with (first
    | (go_at_call 143; refine (isTime_any _ _).mono ?_; rintro r w' ⟨rfl, rfl⟩; first | rw [T1] | rw [T2])
    | (go_at_call 144; refine (IC.out _).mono ?_; rintro r w1 ⟨rfl, b1⟩; have X1 := Lib.hid (X.out.next b1); clear b1; obtain ⟨c0, c1, c2, c3, c4⟩ := FrameW.cells5 (X1.out.at 0 rfl)))
  obtain ⟨a0, a1, a2, a3, a4, a5, a6⟩ := cells7 (X1.out.at 1 rfl)
  go_region
  go_wp2
  go_ret
  exact ⟨rfl, X1.out.b.drew⟩
set_option maxHeartbeats 4000000 in
theorem hear_range0 (h : w.heap[g]? = some (abx y e a B C)) (n t k y2 c l : Int) (T1 : okT n = true) (T2 : okT t = true) (F : okF k 6 y2 c l = true) (hi : C 0 = 0) (b : Int) (ok : Bool) (BY : ∀ W, Below w.heap.size w W → Calls Tryz.prog 145 #[.pointer (some ⟨g, 0, none⟩), .int .i64 n, .int .i64 t] W fun r w' => r = .returned (.tuple #[.int .i64 b, .bool ok]) ∧ Below W.heap.size W w') (hr : y2 ≠ n ∨ ok = false) :
    Calls Tryz.prog 88 #[.pointer (some ⟨g, 0, none⟩), .int .i64 n, .int .i64 t, CV k 6 y2 c l] w fun r w' => r = .returned (.int .i64 4) ∧ Below w.heap.size w w' := by
  have hc : 0 ≤ c := by have := (okF_iff.1 F).1; unfold rightC at this; omega
  have IC := Lib.hid (fun W => isCompressed_any k 6 y2 c l hc W)
  rw [F] at IC
  have X := Lib.hid (((Stay.start w).add h).alloc (.cells #[.int .i64 k, .int .i64 6, .int .i64 y2, .int .u32 c, .int .i64 l] 157 (0, 0)))
  obtain ⟨c0, c1, c2, c3, c4⟩ := FrameW.cells5 (X.out.at 0 rfl)
  have e1 : (((C 0 : Nat) : Int) != 0) = false := by rw [hi]; rfl
  have BYH := Lib.hid BY
  clear h hc F hi BY
  by_cases hy : y2 = n
  · obtain rfl : ok = false := hr.resolve_left (fun h => h hy)
    have e2 : (y2 != n) = false := by rw [hy]; exact bne_self_eq_false n
    clear hr hy
    go_enter Tryz.func88, Tryz.ntmps88
    go_wp2_with (first
      | (go_at_call 143; refine (isTime_any _ _).mono ?_; rintro r w' ⟨rfl, rfl⟩; first | rw [T1] | rw [T2])
      | (go_at_call 144; refine (IC.out _).mono ?_; rintro r w1 ⟨rfl, b1⟩; have X1 := Lib.hid (X.out.next b1); clear b1; obtain ⟨c0, c1, c2, c3, c4⟩ := FrameW.cells5 (X1.out.at 0 rfl)))
    obtain ⟨a0, a1, a2, a3, a4, a5, a6⟩ := cells7 (X1.out.at 1 rfl)
    go_region
    go_wp2_with (go_at_call 145; refine (BYH.out _ X1.out.b.drew).mono ?_; rintro r w2 ⟨rfl, b2⟩; have X2 := Lib.hid (X1.out.drew.next b2); clear b2; obtain ⟨c0, c1, c2, c3, c4⟩ := FrameW.cells5 (X2.out.at 0 rfl))
    go_ret
    exact ⟨rfl, X2.out.b⟩
  · have e2 : (y2 != n) = true := by rw [bne_iff_ne]; exact hy
    clear hr hy
    go_enter Tryz.func88, Tryz.ntmps88
    go_wp2_with (first
      | (go_at_call 143; refine (isTime_any _ _).mono ?_; rintro r w' ⟨rfl, rfl⟩; first | rw [T1] | rw [T2])
      | (go_at_call 144; refine (IC.out _).mono ?_; rintro r w1 ⟨rfl, b1⟩; have X1 := Lib.hid (X.out.next b1); clear b1; obtain ⟨c0, c1, c2, c3, c4⟩ := FrameW.cells5 (X1.out.at 0 rfl)))
    obtain ⟨a0, a1, a2, a3, a4, a5, a6⟩ := cells7 (X1.out.at 1 rfl)
    go_region
    go_wp2_with (go_at_call 145; refine (BYH.out _ X1.out.b.drew).mono ?_; rintro r w2 ⟨rfl, b2⟩; have X2 := Lib.hid (X1.out.drew.next b2); clear b2; obtain ⟨c0, c1, c2, c3, c4⟩ := FrameW.cells5 (X2.out.at 0 rfl))
    go_ret
    exact ⟨rfl, X2.out.b⟩
set_option maxHeartbeats 4000000 in
theorem hear_ok0 (h : w.heap[g]? = some (abx y e a B C)) (n t k y2 c l : Int) (T1 : okT n = true) (T2 : okT t = true) (F : okF k 6 y2 c l = true) (hi : C 0 = 0) (b : Int) (BY : ∀ W, Below w.heap.size w W → Calls Tryz.prog 145 #[.pointer (some ⟨g, 0, none⟩), .int .i64 n, .int .i64 t] W fun r w' => r = .returned (.tuple #[.int .i64 b, .bool true]) ∧ Below W.heap.size W w') (cn : Nat) (hcn : c = (cn : Int)) (hy : y2 = n) :
    Calls Tryz.prog 88 #[.pointer (some ⟨g, 0, none⟩), .int .i64 n, .int .i64 t, CV k 6 y2 c l] w fun r w' => r = .returned (.int .i64 0) ∧ w'.heap[g]? = some (abx y e a (upd B 0 b) (upd C 0 cn)) ∧ Kept g w w' := by
  have hc : 0 ≤ c := by have := (okF_iff.1 F).1; unfold rightC at this; omega
  have IC := Lib.hid (fun W => isCompressed_any k 6 y2 c l hc W)
  rw [F] at IC
  have X := Lib.hid (((Stay.start w).add h).alloc (.cells #[.int .i64 k, .int .i64 6, .int .i64 y2, .int .u32 c, .int .i64 l] 157 (0, 0)))
  obtain ⟨c0, c1, c2, c3, c4⟩ := FrameW.cells5 (X.out.at 0 rfl)
  have e1 : (((C 0 : Nat) : Int) != 0) = false := by rw [hi]; rfl
  have BYH := Lib.hid BY
  subst hcn
  subst hy
  clear h hc F hi BY
  have e2 : (y2 != y2) = false := bne_self_eq_false y2
  go_enter Tryz.func88, Tryz.ntmps88
  go_wp2_with (first
    | (go_at_call 143; refine (isTime_any _ _).mono ?_; rintro r w' ⟨rfl, rfl⟩; first | rw [T1] | rw [T2])
    | (go_at_call 144; refine (IC.out _).mono ?_; rintro r w1 ⟨rfl, b1⟩; have X1 := Lib.hid (X.out.next b1); clear b1; obtain ⟨c0, c1, c2, c3, c4⟩ := FrameW.cells5 (X1.out.at 0 rfl)))
  obtain ⟨a0, a1, a2, a3, a4, a5, a6⟩ := cells7 (X1.out.at 1 rfl)
  go_region
  go_upto_region 9 with (go_at_call 145; refine (BYH.out _ X1.out.b.drew).mono ?_; rintro r w2 ⟨rfl, b2⟩; have X2 := Lib.hid (X1.out.drew.next b2); clear b2; obtain ⟨c0, c1, c2, c3, c4⟩ := FrameW.cells5 (X2.out.at 0 rfl))
  clear a0 a1 a2 a3 a4 a5 a6
  obtain ⟨a0, a1, a2, a3, a4, a5, a6⟩ := cells7 (X2.out.at 1 rfl)
  obtain ⟨f3, f4, f5, f6⟩ := frozen7 (X2.out.at 1 rfl)
  go_wp2
  go_ret
  exact ⟨rfl, heap_setCell_same _ g 4 _ _ _ (heap_setCell_same w2 g 3 _ _ _ (X2.out.at 1 rfl)), (Kept.of X2.out.b).trans (kept2 w2 g 3 4 _ _)⟩
set_option maxHeartbeats 2000000 in
theorem hear_there1 (h : w.heap[g]? = some (abx y e a B C)) (n t k y2 c l : Int) (T1 : okT n = true) (T2 : okT t = true) (F : okF k 7 y2 c l = true) (hi : C 1 ≠ 0) :
    Calls Tryz.prog 88 #[.pointer (some ⟨g, 0, none⟩), .int .i64 n, .int .i64 t, CV k 7 y2 c l] w fun r w' => r = .returned (.int .i64 7) ∧ Below w.heap.size w w' := by
  have hc : 0 ≤ c := by have := (okF_iff.1 F).1; unfold rightC at this; omega
  have IC := Lib.hid (fun W => isCompressed_any k 7 y2 c l hc W)
  rw [F] at IC
  have X := Lib.hid (((Stay.start w).add h).alloc (.cells #[.int .i64 k, .int .i64 7, .int .i64 y2, .int .u32 c, .int .i64 l] 157 (0, 0)))
  obtain ⟨c0, c1, c2, c3, c4⟩ := FrameW.cells5 (X.out.at 0 rfl)
  have e1 : (((C 1 : Nat) : Int) != 0) = true := by rw [bne_iff_ne]; omega
  clear h hc F hi
  go_enter Tryz.func88, Tryz.ntmps88
  go_wp2_with (first
    | (go_at_call 143; refine (isTime_any _ _).mono ?_; rintro r w' ⟨rfl, rfl⟩; first | rw [T1] | rw [T2])
    | (go_at_call 144; refine (IC.out _).mono ?_; rintro r w1 ⟨rfl, b1⟩; have X1 := Lib.hid (X.out.next b1); clear b1; obtain ⟨c0, c1, c2, c3, c4⟩ := FrameW.cells5 (X1.out.at 0 rfl)))
  obtain ⟨a0, a1, a2, a3, a4, a5, a6⟩ := cells7 (X1.out.at 1 rfl)
  go_region
  go_wp2
  go_ret
  exact ⟨rfl, X1.out.b.drew⟩
set_option maxHeartbeats 4000000 in
theorem hear_range1 (h : w.heap[g]? = some (abx y e a B C)) (n t k y2 c l : Int) (T1 : okT n = true) (T2 : okT t = true) (F : okF k 7 y2 c l = true) (hi : C 1 = 0) (b : Int) (ok : Bool) (BY : ∀ W, Below w.heap.size w W → Calls Tryz.prog 145 #[.pointer (some ⟨g, 0, none⟩), .int .i64 n, .int .i64 t] W fun r w' => r = .returned (.tuple #[.int .i64 b, .bool ok]) ∧ Below W.heap.size W w') (hr : y2 ≠ n ∨ ok = false) :
    Calls Tryz.prog 88 #[.pointer (some ⟨g, 0, none⟩), .int .i64 n, .int .i64 t, CV k 7 y2 c l] w fun r w' => r = .returned (.int .i64 4) ∧ Below w.heap.size w w' := by
  have hc : 0 ≤ c := by have := (okF_iff.1 F).1; unfold rightC at this; omega
  have IC := Lib.hid (fun W => isCompressed_any k 7 y2 c l hc W)
  rw [F] at IC
  have X := Lib.hid (((Stay.start w).add h).alloc (.cells #[.int .i64 k, .int .i64 7, .int .i64 y2, .int .u32 c, .int .i64 l] 157 (0, 0)))
  obtain ⟨c0, c1, c2, c3, c4⟩ := FrameW.cells5 (X.out.at 0 rfl)
  have e1 : (((C 1 : Nat) : Int) != 0) = false := by rw [hi]; rfl
  have BYH := Lib.hid BY
  clear h hc F hi BY
  by_cases hy : y2 = n
  · obtain rfl : ok = false := hr.resolve_left (fun h => h hy)
    have e2 : (y2 != n) = false := by rw [hy]; exact bne_self_eq_false n
    clear hr hy
    go_enter Tryz.func88, Tryz.ntmps88
    go_wp2_with (first
      | (go_at_call 143; refine (isTime_any _ _).mono ?_; rintro r w' ⟨rfl, rfl⟩; first | rw [T1] | rw [T2])
      | (go_at_call 144; refine (IC.out _).mono ?_; rintro r w1 ⟨rfl, b1⟩; have X1 := Lib.hid (X.out.next b1); clear b1; obtain ⟨c0, c1, c2, c3, c4⟩ := FrameW.cells5 (X1.out.at 0 rfl)))
    obtain ⟨a0, a1, a2, a3, a4, a5, a6⟩ := cells7 (X1.out.at 1 rfl)
    go_region
    go_wp2_with (go_at_call 145; refine (BYH.out _ X1.out.b.drew).mono ?_; rintro r w2 ⟨rfl, b2⟩; have X2 := Lib.hid (X1.out.drew.next b2); clear b2; obtain ⟨c0, c1, c2, c3, c4⟩ := FrameW.cells5 (X2.out.at 0 rfl))
    go_ret
    exact ⟨rfl, X2.out.b⟩
  · have e2 : (y2 != n) = true := by rw [bne_iff_ne]; exact hy
    clear hr hy
    go_enter Tryz.func88, Tryz.ntmps88
    go_wp2_with (first
      | (go_at_call 143; refine (isTime_any _ _).mono ?_; rintro r w' ⟨rfl, rfl⟩; first | rw [T1] | rw [T2])
      | (go_at_call 144; refine (IC.out _).mono ?_; rintro r w1 ⟨rfl, b1⟩; have X1 := Lib.hid (X.out.next b1); clear b1; obtain ⟨c0, c1, c2, c3, c4⟩ := FrameW.cells5 (X1.out.at 0 rfl)))
    obtain ⟨a0, a1, a2, a3, a4, a5, a6⟩ := cells7 (X1.out.at 1 rfl)
    go_region
    go_wp2_with (go_at_call 145; refine (BYH.out _ X1.out.b.drew).mono ?_; rintro r w2 ⟨rfl, b2⟩; have X2 := Lib.hid (X1.out.drew.next b2); clear b2; obtain ⟨c0, c1, c2, c3, c4⟩ := FrameW.cells5 (X2.out.at 0 rfl))
    go_ret
    exact ⟨rfl, X2.out.b⟩
set_option maxHeartbeats 4000000 in
theorem hear_ok1 (h : w.heap[g]? = some (abx y e a B C)) (n t k y2 c l : Int) (T1 : okT n = true) (T2 : okT t = true) (F : okF k 7 y2 c l = true) (hi : C 1 = 0) (b : Int) (BY : ∀ W, Below w.heap.size w W → Calls Tryz.prog 145 #[.pointer (some ⟨g, 0, none⟩), .int .i64 n, .int .i64 t] W fun r w' => r = .returned (.tuple #[.int .i64 b, .bool true]) ∧ Below W.heap.size W w') (cn : Nat) (hcn : c = (cn : Int)) (hy : y2 = n) :
    Calls Tryz.prog 88 #[.pointer (some ⟨g, 0, none⟩), .int .i64 n, .int .i64 t, CV k 7 y2 c l] w fun r w' => r = .returned (.int .i64 0) ∧ w'.heap[g]? = some (abx y e a (upd B 1 b) (upd C 1 cn)) ∧ Kept g w w' := by
  have hc : 0 ≤ c := by have := (okF_iff.1 F).1; unfold rightC at this; omega
  have IC := Lib.hid (fun W => isCompressed_any k 7 y2 c l hc W)
  rw [F] at IC
  have X := Lib.hid (((Stay.start w).add h).alloc (.cells #[.int .i64 k, .int .i64 7, .int .i64 y2, .int .u32 c, .int .i64 l] 157 (0, 0)))
  obtain ⟨c0, c1, c2, c3, c4⟩ := FrameW.cells5 (X.out.at 0 rfl)
  have e1 : (((C 1 : Nat) : Int) != 0) = false := by rw [hi]; rfl
  have BYH := Lib.hid BY
  subst hcn
  subst hy
  clear h hc F hi BY
  have e2 : (y2 != y2) = false := bne_self_eq_false y2
  go_enter Tryz.func88, Tryz.ntmps88
  go_wp2_with (first
    | (go_at_call 143; refine (isTime_any _ _).mono ?_; rintro r w' ⟨rfl, rfl⟩; first | rw [T1] | rw [T2])
    | (go_at_call 144; refine (IC.out _).mono ?_; rintro r w1 ⟨rfl, b1⟩; have X1 := Lib.hid (X.out.next b1); clear b1; obtain ⟨c0, c1, c2, c3, c4⟩ := FrameW.cells5 (X1.out.at 0 rfl)))
  obtain ⟨a0, a1, a2, a3, a4, a5, a6⟩ := cells7 (X1.out.at 1 rfl)
  go_region
  go_upto_region 9 with (go_at_call 145; refine (BYH.out _ X1.out.b.drew).mono ?_; rintro r w2 ⟨rfl, b2⟩; have X2 := Lib.hid (X1.out.drew.next b2); clear b2; obtain ⟨c0, c1, c2, c3, c4⟩ := FrameW.cells5 (X2.out.at 0 rfl))
  clear a0 a1 a2 a3 a4 a5 a6
  obtain ⟨a0, a1, a2, a3, a4, a5, a6⟩ := cells7 (X2.out.at 1 rfl)
  obtain ⟨f3, f4, f5, f6⟩ := frozen7 (X2.out.at 1 rfl)
  go_wp2
  go_ret
  exact ⟨rfl, heap_setCell_same _ g 6 _ _ _ (heap_setCell_same w2 g 5 _ _ _ (X2.out.at 1 rfl)), (Kept.of X2.out.b).trans (kept2 w2 g 5 6 _ _)⟩
end
end Go.Proofs.YtmagjekmlnpfpaaGreat.AlignW


