/- What a clock shows, as plain numbers: it goes on, by how much, and when it shows a number first. -/
import Derived.WalkKit
import Derived.Test.YtmkgnkbcdkcboaaTickAll
import Derived.Test.YtmkgnkbcdkcboaaStay
namespace Go.Proofs.Ytmkgnkbcdkcboaa.ClockW
/-- What a clock (mark m, base b, rate r) shows at t. -/
def sh (m b r t : Int) : Int := b + (t - m) * (1000000000 + r) / 1000000000
/-- A clock that may be. -/
structure CI (m b r : Int) : Prop where
  m0 : 0 ≤ m
  m1 : m ≤ 1125899906842624
  b0 : -1125899906842624 ≤ b
  b1 : 1000 * b ≤ 1125899906842624000 + 1001 * m
  r0 : -1000000 ≤ r
  r1 : r ≤ 1000000
theorem gone_bounds (d r : Int) (hd : 0 ≤ d) (h0 : -1000000 ≤ r) (h1 : r ≤ 1000000) : 999 * d ≤ 1000 * (d * (1000000000 + r) / 1000000000) + 999 ∧ 1000 * (d * (1000000000 + r) / 1000000000) ≤ 1001 * d ∧ 0 ≤ d * (1000000000 + r) / 1000000000 := by
  have a := Int.mul_le_mul_of_nonneg_left (show (1000000000 : Int) + r ≤ 1001000000 by omega) hd
  have b := Int.mul_le_mul_of_nonneg_left (show (999000000 : Int) ≤ 1000000000 + r by omega) hd
  generalize d * (1000000000 + r) = z at *
  omega
theorem sh_start (m b r : Int) : sh m b r m = b := by
  unfold sh
  rw [Int.sub_self, Int.zero_mul]
  omega
theorem sh_bounds {m b r t : Int} (h : CI m b r) (h0 : m ≤ t) : b ≤ sh m b r t ∧ 1000 * sh m b r t ≤ 1125899906842624000 + 1001 * t := by
  have g := gone_bounds (t - m) r (by omega) h.r0 h.r1
  have := h.b1
  unfold sh
  omega
theorem CI.next {m b r t r' : Int} (h : CI m b r) (h0 : m ≤ t) (h1 : t ≤ 1125899906842624) (q0 : -1000000 ≤ r') (q1 : r' ≤ 1000000) : CI t (sh m b r t) r' := by
  have g := sh_bounds h h0
  exact ⟨Int.le_trans h.m0 h0, h1, Int.le_trans h.b0 g.1, g.2, q0, q1⟩
theorem sh_range {m b r t : Int} (h : CI m b r) (h0 : m ≤ t) (h1 : t ≤ 1125899906842624) : -1125899906842624 ≤ sh m b r t ∧ sh m b r t ≤ 2252925713592090 := by
  have g := sh_bounds h h0
  have := h.b0
  omega
theorem CI.base {m b r : Int} (h : CI m b r) : b ≤ 2252925713592090 := by
  have := h.b1
  have := h.m1
  omega
theorem gone_range {m b r t : Int} (h : CI m b r) (h0 : m ≤ t) (h1 : t ≤ 1125899906842624) : 0 ≤ (t - m) * (1000000000 + r) / 1000000000 ∧ (t - m) * (1000000000 + r) / 1000000000 ≤ 1127025806749467 := by
  have g := gone_bounds (t - m) r (by omega) h.r0 h.r1
  have := h.m0
  omega
theorem sh_mono {m b r t t' : Int} (h0 : -1000000 ≤ r) (ht : t ≤ t') : sh m b r t ≤ sh m b r t' := by
  unfold sh
  have := Int.mul_le_mul_of_nonneg_right (show t - m ≤ t' - m by omega) (show (0 : Int) ≤ 1000000000 + r by omega)
  omega
theorem sh_step {m b r t : Int} (h0 : -1000000 ≤ r) (h1 : r ≤ 1000000) : 0 ≤ sh m b r (t + 1) - sh m b r t ∧ sh m b r (t + 1) - sh m b r t ≤ 2 := by
  unfold sh
  have e : (t + 1 - m) * (1000000000 + r) = (t - m) * (1000000000 + r) + (1000000000 + r) := by
    rw [show t + 1 - m = (t - m) + 1 by omega, Int.add_mul, Int.one_mul]
  rw [e]
  generalize (t - m) * (1000000000 + r) = z
  omega
/-- The first time at which a clock shows n, or more. -/
def wh (m b r n : Int) : Int := if n ≤ b then m else m - (b - n) * 1000000000 / (1000000000 + r)
theorem wh_low {m b r n : Int} (h : n ≤ b) : wh m b r n = m := if_pos h
theorem wh_high {m b r n : Int} (h0 : -1000000 ≤ r) (h : b < n) : wh m b r n = m - (b - n) * 1000000000 / (1000000000 + r) ∧ m < wh m b r n ∧ n ≤ sh m b r (wh m b r n) ∧ sh m b r (wh m b r n - 1) < n := by
  have e : wh m b r n = m - (b - n) * 1000000000 / (1000000000 + r) := if_neg (by omega)
  refine ⟨e, ?_⟩
  rw [e]
  have k0 : 0 < 1000000000 + r := by omega
  have d := Int.mul_ediv_add_emod ((b - n) * 1000000000) (1000000000 + r)
  have r0 := Int.emod_nonneg ((b - n) * 1000000000) (show 1000000000 + r ≠ 0 by omega)
  have r1 := Int.emod_lt_of_pos ((b - n) * 1000000000) k0
  generalize ((b - n) * 1000000000) % (1000000000 + r) = s at *
  generalize hq : ((b - n) * 1000000000) / (1000000000 + r) = q at *
  have q0 : q < 0 := by
    rcases (show q < 0 ∨ 0 ≤ q by omega) with h2 | h2
    · exact h2
    · have := Int.mul_nonneg (Int.le_of_lt k0) h2
      omega
  unfold sh
  have e1 : (m - q - m) * (1000000000 + r) = -((1000000000 + r) * q) := by
    rw [show m - q - m = -q by omega, Int.neg_mul, Int.mul_comm]
  have e2 : (m - q - 1 - m) * (1000000000 + r) = -((1000000000 + r) * q) - (1000000000 + r) := by
    rw [show m - q - 1 - m = -q - 1 by omega, Int.sub_mul, Int.neg_mul, Int.mul_comm, Int.one_mul]
  rw [e1, e2]
  generalize (1000000000 + r) * q = z at *
  omega
theorem wh_last {m b r n : Int} (h0 : -1000000 ≤ r) (h : b < n) (hs : n ≤ sh m b r 1125899906842624) : wh m b r n ≤ 1125899906842624 := by
  obtain ⟨-, -, -, h3⟩ := wh_high (m := m) h0 h
  rcases (show 1125899906842624 < wh m b r n ∨ wh m b r n ≤ 1125899906842624 by omega) with h4 | h4
  · have := sh_mono (m := m) (b := b) h0 (show 1125899906842624 ≤ wh m b r n - 1 by omega)
    omega
  · exact h4
/-- It is the only such time. -/
theorem wh_only {m b r n t : Int} (h0 : -1000000 ≤ r) (hm : m ≤ t) (hs : n ≤ sh m b r t) (hb : t = m ∨ sh m b r (t - 1) < n) : t = wh m b r n := by
  by_cases h : n ≤ b
  · rw [wh_low h]
    rcases hb with h1 | h1
    · exact h1
    · rcases (show m < t ∨ t ≤ m by omega) with h2 | h2
      · have := sh_mono (m := m) (b := b) h0 (show m ≤ t - 1 by omega)
        rw [sh_start] at this
        omega
      · omega
  · obtain ⟨-, k1, k2, k3⟩ := wh_high (m := m) h0 (Int.not_le.1 h)
    generalize wh m b r n = u at *
    rcases Int.lt_trichotomy t u with h1 | h1 | h1
    · have := sh_mono (m := m) (b := b) h0 (show t ≤ u - 1 by omega)
      omega
    · exact h1
    · rcases hb with rfl | h2
      · omega
      · have := sh_mono (m := m) (b := b) h0 (show u ≤ t - 1 by omega)
        omega
/-- Whole seconds first, then the rest: the same. -/
theorem sh_parts (m b r t : Int) : b + (t - m) + (t - m) / 1000000000 * r + ((t - m) % 1000000000 * r) / 1000000000 = sh m b r t := by
  unfold sh
  generalize t - m = d
  have e : d * (1000000000 + r) = d * 1000000000 + d * r := by rw [Int.mul_add]
  have e2 : d * r = 1000000000 * (d / 1000000000 * r) + d % 1000000000 * r := by
    have := Int.mul_ediv_add_emod d 1000000000
    calc d * r = (1000000000 * (d / 1000000000) + d % 1000000000) * r := by rw [this]
      _ = _ := by rw [Int.add_mul, Int.mul_assoc]
  rw [e, e2]
  generalize d / 1000000000 * r = x
  generalize d % 1000000000 * r = y
  omega
theorem floor_eq (x : Int) : (if x.tmod 1000000000 < 0 then x.tdiv 1000000000 - 1 else x.tdiv 1000000000) = x / 1000000000 := by
  rcases (show x < 0 ∨ 0 ≤ x by omega) with h | h
  · obtain ⟨n, rfl⟩ : ∃ n : Nat, x = -(n : Int) := ⟨x.natAbs, by omega⟩
    rw [Int.neg_tmod, Int.neg_tdiv, Int.tmod_eq_emod_of_nonneg (Int.natCast_nonneg n), Int.tdiv_eq_ediv_of_nonneg (Int.natCast_nonneg n)]
    split <;> omega
  · rw [Int.tmod_eq_emod_of_nonneg h, Int.tdiv_eq_ediv_of_nonneg h]
    split <;> omega
end Go.Proofs.Ytmkgnkbcdkcboaa.ClockW


/- The small functions of package clock, and those of the document's own answer: times, bases, rates; what a clock shows. -/
namespace Go.Proofs.Ytmkgnkbcdkcboaa.ClockW
open Go.RowKit TickW
def inn (n lo hi : Int) : Bool := decide (lo ≤ n) && decide (n ≤ hi)
def okT (t : Int) : Bool := inn t 0 1125899906842624
def okB (t : Int) : Bool := inn t (-1125899906842624) 1125899906842624
def okR (t : Int) : Bool := inn t (-1000000) 1000000
theorem inn_iff {n lo hi : Int} : inn n lo hi = true ↔ lo ≤ n ∧ n ≤ hi := by unfold inn; simp
theorem okT_iff {n : Int} : okT n = true ↔ 0 ≤ n ∧ n ≤ 1125899906842624 := inn_iff
theorem okB_iff {n : Int} : okB n = true ↔ -1125899906842624 ≤ n ∧ n ≤ 1125899906842624 := inn_iff
theorem okR_iff {n : Int} : okR n = true ↔ -1000000 ≤ n ∧ n ≤ 1000000 := inn_iff
theorem within_any (n lo hi : Int) (w : World) : Calls Try.prog 41 #[.int .i64 n, .int .i64 lo, .int .i64 hi] w fun e w' => e = .returned (.bool (inn n lo hi)) ∧ w = w' := by
  unfold inn
  by_cases h : lo ≤ n
  · rw [decide_eq_true h, Bool.true_and]
    go_enter Try.func41, Try.ntmps41
    go_wp2
    go_ret
    exact ⟨rfl, rfl⟩
  · rw [decide_eq_false h, Bool.false_and]
    go_enter Try.func41, Try.ntmps41
    go_wp2
    go_ret
    exact ⟨rfl, rfl⟩
theorem isTime_any (n : Int) (w : World) : Calls Try.prog 23 #[.int .i64 n] w fun e w' => e = .returned (.bool (okT n)) ∧ w = w' := by
  unfold okT
  go_enter Try.func23, Try.ntmps23
  go_wp2_with (go_at_call 41; refine (within_any _ _ _ _).mono ?_; rintro e w' ⟨rfl, rfl⟩)
  go_ret
  exact ⟨rfl, rfl⟩
theorem isBase_any (n : Int) (w : World) : Calls Try.prog 24 #[.int .i64 n] w fun e w' => e = .returned (.bool (okB n)) ∧ w = w' := by
  unfold okB
  go_enter Try.func24, Try.ntmps24
  go_wp2_with (go_at_call 41; refine (within_any _ _ _ _).mono ?_; rintro e w' ⟨rfl, rfl⟩)
  go_ret
  exact ⟨rfl, rfl⟩
theorem isRate_any (n : Int) (w : World) : Calls Try.prog 25 #[.int .i64 n] w fun e w' => e = .returned (.bool (okR n)) ∧ w = w' := by
  unfold okR
  go_enter Try.func25, Try.ntmps25
  go_wp2_with (go_at_call 41; refine (within_any _ _ _ _).mono ?_; rintro e w' ⟨rfl, rfl⟩)
  go_ret
  exact ⟨rfl, rfl⟩
theorem real_any (n : Int) (w : World) : Calls Try.prog 33 #[.int .i64 n] w fun e w' => e = .returned (.bool (okT n)) ∧ w = w' := by
  unfold okT inn
  by_cases h : 0 ≤ n
  · rw [decide_eq_true h, Bool.true_and]
    go_enter Try.func33, Try.ntmps33
    go_wp2
    go_ret
    exact ⟨rfl, rfl⟩
  · rw [decide_eq_false h, Bool.false_and]
    go_enter Try.func33, Try.ntmps33
    go_wp2
    go_ret
    exact ⟨rfl, rfl⟩
theorem fast_any (n : Int) (w : World) : Calls Try.prog 34 #[.int .i64 n] w fun e w' => e = .returned (.bool (okR n)) ∧ w = w' := by
  unfold okR inn
  by_cases h : -1000000 ≤ n
  · rw [decide_eq_true h, Bool.true_and]
    go_enter Try.func34, Try.ntmps34
    go_wp2
    go_ret
    exact ⟨rfl, rfl⟩
  · rw [decide_eq_false h, Bool.false_and]
    go_enter Try.func34, Try.ntmps34
    go_wp2
    go_ret
    exact ⟨rfl, rfl⟩
theorem shown_any (n : Int) (w : World) : Calls Try.prog 36 #[.int .i64 n] w fun e w' => e = .returned (.bool (okB n)) ∧ w = w' := by
  unfold okB inn
  by_cases h : -1125899906842624 ≤ n
  · rw [decide_eq_true h, Bool.true_and]
    go_enter Try.func36, Try.ntmps36
    go_wp2
    go_ret
    exact ⟨rfl, rfl⟩
  · rw [decide_eq_false h, Bool.false_and]
    go_enter Try.func36, Try.ntmps36
    go_wp2
    go_ret
    exact ⟨rfl, rfl⟩
/-- A clock's cells: mark, base, rate. -/
def CK (w : World) (k : Nat) (m b r : Int) : Prop := w.heap[k]? = some (.cells #[.int .i64 m, .int .i64 b, .int .i64 r] 71 (0, 0))
theorem CK.mark {w : World} {k : Nat} {m b r : Int} (h : CK w k m b r) : w.cell? ⟨k, 0, none⟩ = some (.int .i64 m) := cell_of_row w k 0 _ _ _ h
theorem CK.base {w : World} {k : Nat} {m b r : Int} (h : CK w k m b r) : w.cell? ⟨k, 1, none⟩ = some (.int .i64 b) := cell_of_row w k 1 _ _ _ h
theorem CK.rate {w : World} {k : Nat} {m b r : Int} (h : CK w k m b r) : w.cell? ⟨k, 2, none⟩ = some (.int .i64 r) := cell_of_row w k 2 _ _ _ h
theorem CK.lt {w : World} {k : Nat} {m b r : Int} (h : CK w k m b r) : k < w.heap.size := Lib.lt_of_cell h.mark
theorem CK.below {w w1 : World} {k : Nat} {m b r : Int} (h : CK w k m b r) (hb : Below w.heap.size w w1) : CK w1 k m b r := row_below hb h
/-- What the function says of a clock and a time. -/
def tell (m t : Int) : Bool := okT t && decide (m ≤ t)
theorem tell_iff {m t : Int} : tell m t = true ↔ (0 ≤ t ∧ t ≤ 1125899906842624) ∧ m ≤ t := by unfold tell; rw [Bool.and_eq_true, okT_iff, decide_eq_true_iff]
theorem tells_any (k : Nat) (m b r t : Int) (w : World) (h : CK w k m b r) : Calls Try.prog 31 #[.pointer (some ⟨k, 0, none⟩), .int .i64 t] w fun e w' => e = .returned (.bool (tell m t)) ∧ w = w' := by
  have c0 := h.mark
  unfold tell
  cases ho : okT t with
  | true =>
    rw [Bool.true_and]
    go_enter Try.func31, Try.ntmps31
    go_wp2_with (go_at_call 23; refine (isTime_any _ _).mono ?_; rintro e w' ⟨rfl, rfl⟩; rw [ho])
    go_ret
    exact ⟨rfl, rfl⟩
  | false =>
    rw [Bool.false_and]
    go_enter Try.func31, Try.ntmps31
    go_wp2_with (go_at_call 23; refine (isTime_any _ _).mono ?_; rintro e w' ⟨rfl, rfl⟩; rw [ho])
    go_ret
    exact ⟨rfl, rfl⟩
theorem tells_nil (t : Int) (w : World) : Calls Try.prog 31 #[.pointer none, .int .i64 t] w fun e w' => e = .returned (.bool false) ∧ w = w' := by
  go_enter Try.func31, Try.ntmps31
  go_wp2
  go_ret
  exact ⟨rfl, rfl⟩
end Go.Proofs.Ytmkgnkbcdkcboaa.ClockW


/- Package clock's functions at a clock that may be: New, Now, Rate, Set, When, Mark. -/
namespace Go.Proofs.Ytmkgnkbcdkcboaa.ClockW
open Go.RowKit TickW Shell
theorem shows_any (k : Nat) (m b r t : Int) (w : World) (h : CK w k m b r) (hi : CI m b r) (h0 : m ≤ t) (h1 : t ≤ 1125899906842624) :
    Calls Try.prog 32 #[.pointer (some ⟨k, 0, none⟩), .int .i64 t] w fun e w' => e = .returned (.int .i64 (sh m b r t)) ∧ Below w.heap.size w w' := by
  have g := gone_range hi h0 h1
  have q := sh_range hi h0 h1
  obtain ⟨m0, m1, b0, b1, r0, r1⟩ := hi
  have eA : ansV ((t - m) * (1000000000 + r) / 1000000000) = .tuple #[.int .i64 ((t - m) * (1000000000 + r) / 1000000000), .int .i64 0] := ansV_in _ (by omega) (by omega)
  have M := fun W => muldiv_any (t - m) (1000000000 + r) 1000000000 (by omega) (by omega) (by omega) (by omega) (by omega) (by omega) W
  rw [eA] at M
  have eD : IntKind.i64.wrap (t - m) = t - m := by rw [IntKind.wrap_i64]; omega
  have eR : IntKind.i64.wrap (1000000000 + r) = 1000000000 + r := by rw [IntKind.wrap_i64]; omega
  unfold sh at *
  clear eA
  generalize (t - m) * (1000000000 + r) / 1000000000 = z at *
  have eS : wrap64 (b + z) = b + z := by unfold wrap64; omega
  have C := Lib.hid h
  have c0 := h.mark
  have c1 := h.base
  have c2 := h.rate
  have HM := Lib.hid (show ∀ W, Calls Try.prog 47 #[.int .i64 (IntKind.i64.wrap (t - m)), .int .i64 (IntKind.i64.wrap (1000000000 + r)), .int .i64 1000000000] W fun e w' => e = .returned (.tuple #[.int .i64 z, .int .i64 0]) ∧ Below W.heap.size W w' by rw [eD, eR]; exact M)
  clear eD eR h m0 m1 b0 b1 r0 r1 g q h0 h1 M
  go_enter Try.func32, Try.ntmps32
  go_wp2_with fail
  go_region_held3 (fun w' => w'.cell? ⟨k, 0, none⟩ = some (.int .i64 m) ∧ w'.cell? ⟨k, 1, none⟩ = some (.int .i64 b) ∧ w'.cell? ⟨k, 2, none⟩ = some (.int .i64 r)) (first | exact ⟨C.out.mark, C.out.base, C.out.rate⟩ | exact ⟨K1.out.mark, K1.out.base, K1.out.rate⟩) (first | (go_at_call 47; (with_reducible refine (HM.out _).mono ?_); rintro e w1 ⟨rfl, b1⟩; have K1 := Lib.hid (CK.below (w := w.drew) C.out b1); have B1 := Lib.hid (of_drew b1); clear b1))
  have d1 := K1.out.base
  go_wp2
  go_ret
  exact ⟨by show Ending.returned (.int .i64 (wrap64 (b + z))) = _; rw [eS], B1.out⟩
def okN (t b r : Int) : Bool := okT t && (okB b && okR r)
theorem okN_iff {t b r : Int} : okN t b r = true ↔ CI t b r ∧ okB b = true := by
  unfold okN
  rw [Bool.and_eq_true, Bool.and_eq_true, okT_iff, okB_iff, okR_iff]
  constructor
  · rintro ⟨⟨h0, h1⟩, ⟨h2, h3⟩, h4, h5⟩
    exact ⟨⟨h0, h1, h2, by omega, h4, h5⟩, h2, h3⟩
  · rintro ⟨⟨h0, h1, h2, h3, h4, h5⟩, h6⟩
    exact ⟨⟨h0, h1⟩, h6, h4, h5⟩
theorem new_ok (t b r : Int) (h : okN t b r = true) (w : World) :
    Calls Try.prog 10 #[.int .i64 t, .int .i64 b, .int .i64 r] w fun e w' => e = .returned (.tuple #[.pointer (some ⟨w.heap.size, 0, none⟩), .int .i64 0]) ∧ CK w' w.heap.size t b r ∧ Below w.heap.size w w' := by
  unfold okN at h
  rw [Bool.and_eq_true, Bool.and_eq_true] at h
  obtain ⟨h1, h2, h3⟩ := h
  go_enter Try.func10, Try.ntmps10
  go_wp2_with (first
    | (go_at_call 23; refine (isTime_any _ _).mono ?_; rintro e w' ⟨rfl, rfl⟩; rw [h1])
    | (go_at_call 24; refine (isBase_any _ _).mono ?_; rintro e w' ⟨rfl, rfl⟩; rw [h2])
    | (go_at_call 25; refine (isRate_any _ _).mono ?_; rintro e w' ⟨rfl, rfl⟩; rw [h3]))
  go_ret2
  exact ⟨rfl, heap_alloc_new _ _, (Below.refl _ _).alloc (Nat.le_refl _) _⟩
theorem new_bad (t b r : Int) (h : okN t b r = false) (w : World) :
    Calls Try.prog 10 #[.int .i64 t, .int .i64 b, .int .i64 r] w fun e w' => e = .returned (.tuple #[.pointer none, .int .i64 1]) ∧ w = w' := by
  unfold okN at h
  cases h1 : okT t with
  | false =>
    clear h
    go_enter Try.func10, Try.ntmps10
    go_wp2_with (first
      | (go_at_call 23; refine (isTime_any _ _).mono ?_; rintro e w' ⟨rfl, rfl⟩; rw [h1]))
    go_ret2
    exact ⟨rfl, rfl⟩
  | true =>
    rw [h1, Bool.true_and] at h
    cases h2 : okB b with
    | false =>
      clear h
      go_enter Try.func10, Try.ntmps10
      go_wp2_with (first
        | (go_at_call 23; refine (isTime_any _ _).mono ?_; rintro e w' ⟨rfl, rfl⟩; rw [h1])
        | (go_at_call 24; refine (isBase_any _ _).mono ?_; rintro e w' ⟨rfl, rfl⟩; rw [h2]))
      go_ret2
      exact ⟨rfl, rfl⟩
    | true =>
      rw [h2, Bool.true_and] at h
      go_enter Try.func10, Try.ntmps10
      go_wp2_with (first
        | (go_at_call 23; refine (isTime_any _ _).mono ?_; rintro e w' ⟨rfl, rfl⟩; rw [h1])
        | (go_at_call 24; refine (isBase_any _ _).mono ?_; rintro e w' ⟨rfl, rfl⟩; rw [h2])
        | (go_at_call 25; refine (isRate_any _ _).mono ?_; rintro e w' ⟨rfl, rfl⟩; rw [h]))
      go_ret2
      exact ⟨rfl, rfl⟩
theorem now_ok (k : Nat) (m b r t : Int) (w : World) (h : CK w k m b r) (hi : CI m b r) (ht : tell m t = true) :
    Calls Try.prog 39 #[.pointer (some ⟨k, 0, none⟩), .int .i64 t] w fun e w' => e = .returned (.tuple #[.int .i64 (sh m b r t), .int .i64 0]) ∧ Below w.heap.size w w' := by
  have HT := tell_iff.1 ht
  have S := shows_any k m b r t w h hi HT.2 HT.1.2
  clear HT hi
  go_enter Try.func39, Try.ntmps39
  go_wp2_with (first
    | (go_at_call 31; refine (tells_any k m b r t _ h).mono ?_; rintro e w' ⟨rfl, rfl⟩; rw [ht])
    | (go_at_call 32; refine S.mono ?_; rintro e w' ⟨rfl, b1⟩))
  go_ret2
  exact ⟨rfl, b1⟩
theorem now_bad (k : Nat) (m b r t : Int) (w : World) (h : CK w k m b r) (ht : tell m t = false) :
    Calls Try.prog 39 #[.pointer (some ⟨k, 0, none⟩), .int .i64 t] w fun e w' => e = .returned (.tuple #[.int .i64 0, .int .i64 1]) ∧ w = w' := by
  go_enter Try.func39, Try.ntmps39
  go_wp2_with (first
    | (go_at_call 31; refine (tells_any k m b r t _ h).mono ?_; rintro e w' ⟨rfl, rfl⟩; rw [ht]))
  go_ret2
  exact ⟨rfl, rfl⟩
theorem now_nil (t : Int) (w : World) :
    Calls Try.prog 39 #[.pointer none, .int .i64 t] w fun e w' => e = .returned (.tuple #[.int .i64 0, .int .i64 1]) ∧ w = w' := by
  go_enter Try.func39, Try.ntmps39
  go_wp2_with (first
    | (go_at_call 31; refine (tells_nil t _).mono ?_; rintro e w' ⟨rfl, rfl⟩))
  go_ret2
  exact ⟨rfl, rfl⟩
theorem CK.kept {k j : Nat} {m b r : Int} {w w' : World} (h : CK w j m b r) (hk : Kept k w w') (hj : j ≠ k) : CK w' j m b r := (hk.block j hj h.lt).trans h
theorem set3 {w : World} {k : Nat} {m b r : Int} (h : CK w k m b r) (x y z : Int) : CK (((w.setCell ⟨k, 0, none⟩ (.int .i64 x)).setCell ⟨k, 1, none⟩ (.int .i64 y)).setCell ⟨k, 2, none⟩ (.int .i64 z)) k x y z :=
  heap_setCell_same _ k 2 _ _ _ (heap_setCell_same _ k 1 _ _ _ (heap_setCell_same w k 0 _ _ _ h))
theorem kept3 {w w1 : World} {k : Nat} (b : Below w.heap.size w w1) (_hk : k < w.heap.size) (x y z : Value) : Kept k w (((w1.setCell ⟨k, 0, none⟩ x).setCell ⟨k, 1, none⟩ y).setCell ⟨k, 2, none⟩ z) :=
  ⟨b.os, b.tape, b.output, by simpa [World.setCell] using b.size, fun j hj hs => by
    rw [Below.heap_setCell _ _ _ _ hj, Below.heap_setCell _ _ _ _ hj, Below.heap_setCell _ _ _ _ hj]
    exact b.block j hs⟩
theorem rate_ok (k : Nat) (m b r t r' : Int) (w : World) (h : CK w k m b r) (hi : CI m b r) (ht : tell m t = true) (hr : okR r' = true) :
    Calls Try.prog 14 #[.pointer (some ⟨k, 0, none⟩), .int .i64 t, .int .i64 r'] w fun e w' => e = .returned (.int .i64 0) ∧ CK w' k t (sh m b r t) r' ∧ Kept k w w' := by
  have HT := tell_iff.1 ht
  have S := shows_any k m b r t w h hi HT.2 HT.1.2
  clear HT hi
  go_enter Try.func14, Try.ntmps14
  go_wp2_with (first
    | (go_at_call 31; refine (tells_any k m b r t _ h).mono ?_; rintro e w' ⟨rfl, rfl⟩; rw [ht])
    | (go_at_call 25; refine (isRate_any _ _).mono ?_; rintro e w' ⟨rfl, rfl⟩; rw [hr])
    | (go_at_call 32; refine S.mono ?_; rintro e w1 ⟨rfl, b1⟩; have c1 := h.below b1; have g0 := c1.mark; have g1 := c1.base; have g2 := c1.rate; have f0 := frozen_of_row w1 k 0 _ _ c1; have f1 := frozen_of_row w1 k 1 _ _ c1; have f2 := frozen_of_row w1 k 2 _ _ c1))
  go_ret
  exact ⟨rfl, set3 c1 _ _ _, kept3 b1 h.lt _ _ _⟩
/-- What Rate or Set refuses. -/
theorem rate_bad (k : Nat) (m b r t r' : Int) (w : World) (h : CK w k m b r) (ht : (tell m t && okR r') = false) :
    Calls Try.prog 14 #[.pointer (some ⟨k, 0, none⟩), .int .i64 t, .int .i64 r'] w fun e w' => e = .returned (.int .i64 1) ∧ w = w' := by
  cases h1 : tell m t with
  | false =>
    clear ht
    go_enter Try.func14, Try.ntmps14
    go_wp2_with (first
      | (go_at_call 31; refine (tells_any k m b r t _ h).mono ?_; rintro e w' ⟨rfl, rfl⟩; rw [h1]))
    go_ret
    exact ⟨rfl, rfl⟩
  | true =>
    rw [h1, Bool.true_and] at ht
    go_enter Try.func14, Try.ntmps14
    go_wp2_with (first
      | (go_at_call 31; refine (tells_any k m b r t _ h).mono ?_; rintro e w' ⟨rfl, rfl⟩; rw [h1])
      | (go_at_call 25; refine (isRate_any _ _).mono ?_; rintro e w' ⟨rfl, rfl⟩; rw [ht]))
    go_ret
    exact ⟨rfl, rfl⟩
theorem rate_nil (t r : Int) (w : World) :
    Calls Try.prog 14 #[.pointer none, .int .i64 t, .int .i64 r] w fun e w' => e = .returned (.int .i64 1) ∧ w = w' := by
  go_enter Try.func14, Try.ntmps14
  go_wp2_with (first
    | (go_at_call 31; refine (tells_nil t _).mono ?_; rintro e w' ⟨rfl, rfl⟩))
  go_ret
  exact ⟨rfl, rfl⟩
theorem set_ok (k : Nat) (m b r t b' : Int) (w : World) (h : CK w k m b r) (ht : tell m t = true) (hr : okB b' = true) :
    Calls Try.prog 16 #[.pointer (some ⟨k, 0, none⟩), .int .i64 t, .int .i64 b'] w fun e w' => e = .returned (.int .i64 0) ∧ CK w' k t b' r ∧ Kept k w w' := by
  have g0 := h.mark
  have g1 := h.base
  have g2 := h.rate
  have f0 := frozen_of_row w k 0 _ _ h
  have f1 := frozen_of_row w k 1 _ _ h
  have f2 := frozen_of_row w k 2 _ _ h
  go_enter Try.func16, Try.ntmps16
  go_wp2_with (first
    | (go_at_call 31; refine (tells_any k m b r t _ h).mono ?_; rintro e w' ⟨rfl, rfl⟩; rw [ht])
    | (go_at_call 24; refine (isBase_any _ _).mono ?_; rintro e w' ⟨rfl, rfl⟩; rw [hr]))
  go_ret
  exact ⟨rfl, set3 h _ _ _, kept3 (Below.refl _ _) h.lt _ _ _⟩
theorem set_bad (k : Nat) (m b r t b' : Int) (w : World) (h : CK w k m b r) (ht : (tell m t && okB b') = false) :
    Calls Try.prog 16 #[.pointer (some ⟨k, 0, none⟩), .int .i64 t, .int .i64 b'] w fun e w' => e = .returned (.int .i64 1) ∧ w = w' := by
  cases h1 : tell m t with
  | false =>
    clear ht
    go_enter Try.func16, Try.ntmps16
    go_wp2_with (first
      | (go_at_call 31; refine (tells_any k m b r t _ h).mono ?_; rintro e w' ⟨rfl, rfl⟩; rw [h1]))
    go_ret
    exact ⟨rfl, rfl⟩
  | true =>
    rw [h1, Bool.true_and] at ht
    go_enter Try.func16, Try.ntmps16
    go_wp2_with (first
      | (go_at_call 31; refine (tells_any k m b r t _ h).mono ?_; rintro e w' ⟨rfl, rfl⟩; rw [h1])
      | (go_at_call 24; refine (isBase_any _ _).mono ?_; rintro e w' ⟨rfl, rfl⟩; rw [ht]))
    go_ret
    exact ⟨rfl, rfl⟩
theorem set_nil (t b : Int) (w : World) :
    Calls Try.prog 16 #[.pointer none, .int .i64 t, .int .i64 b] w fun e w' => e = .returned (.int .i64 1) ∧ w = w' := by
  go_enter Try.func16, Try.ntmps16
  go_wp2_with (first
    | (go_at_call 31; refine (tells_nil t _).mono ?_; rintro e w' ⟨rfl, rfl⟩))
  go_ret
  exact ⟨rfl, rfl⟩
end Go.Proofs.Ytmkgnkbcdkcboaa.ClockW


/- Package clock's When; the document's own reckoning: At, Now, Rate, Set. -/
namespace Go.Proofs.Ytmkgnkbcdkcboaa.ClockW
open Go.RowKit TickW Shell
theorem when_nil (n : Int) (w : World) :
    Calls Try.prog 40 #[.pointer none, .int .i64 n] w fun e w' => e = .returned (.tuple #[.int .i64 0, .int .i64 1]) ∧ w = w' := by
  go_enter Try.func40, Try.ntmps40
  go_wp2
  go_ret2
  exact ⟨rfl, rfl⟩
theorem when_low (k : Nat) (m b r n : Int) (w : World) (h : CK w k m b r) (hn : n ≤ b) :
    Calls Try.prog 40 #[.pointer (some ⟨k, 0, none⟩), .int .i64 n] w fun e w' => e = .returned (.tuple #[.int .i64 m, .int .i64 0]) ∧ w = w' := by
  have g0 := h.mark
  have g1 := h.base
  go_enter Try.func40, Try.ntmps40
  go_wp2
  go_ret2
  exact ⟨rfl, rfl⟩
theorem when_none (k : Nat) (m b r n : Int) (w : World) (h : CK w k m b r) (hi : CI m b r) (hn : ¬ n ≤ b) (hs : sh m b r 1125899906842624 < n) :
    Calls Try.prog 40 #[.pointer (some ⟨k, 0, none⟩), .int .i64 n] w fun e w' => e = .returned (.tuple #[.int .i64 0, .int .i64 5]) ∧ Below w.heap.size w w' := by
  have S := shows_any k m b r 1125899906842624 w h hi hi.m1 (Int.le_refl _)
  have g0 := h.mark
  have g1 := h.base
  generalize sh m b r 1125899906842624 = z at *
  clear hi
  go_enter Try.func40, Try.ntmps40
  go_wp2_with (go_at_call 32; refine S.mono ?_; rintro e w1 ⟨rfl, b1⟩)
  go_ret2
  exact ⟨rfl, b1⟩
theorem when_ok (k : Nat) (m b r n : Int) (w : World) (h : CK w k m b r) (hi : CI m b r) (hn : ¬ n ≤ b) (hs : ¬ sh m b r 1125899906842624 < n) :
    Calls Try.prog 40 #[.pointer (some ⟨k, 0, none⟩), .int .i64 n] w fun e w' => e = .returned (.tuple #[.int .i64 (wh m b r n), .int .i64 0]) ∧ Below w.heap.size w w' := by
  have S := shows_any k m b r 1125899906842624 w h hi hi.m1 (Int.le_refl _)
  have W1 := wh_last (m := m) hi.r0 (Int.not_le.1 hn) (Int.not_lt.1 hs)
  obtain ⟨W0, W2, -, -⟩ := wh_high (m := m) hi.r0 (Int.not_le.1 hn)
  have hr := sh_range hi hi.m1 (Int.le_refl _)
  have hb := hi.base
  have g0 := h.mark
  have g1 := h.base
  have g2 := h.rate
  obtain ⟨m0, m1, b0, b1, r0, r1⟩ := hi
  generalize sh m b r 1125899906842624 = z at *
  have eA : ansV ((b - n) * 1000000000 / (1000000000 + r)) = .tuple #[.int .i64 ((b - n) * 1000000000 / (1000000000 + r)), .int .i64 0] := ansV_in _ (by omega) (by omega)
  have M := fun W => muldiv_any (b - n) 1000000000 (1000000000 + r) (by omega) (by omega) (by omega) (by omega) (by omega) (by omega) W
  rw [eA] at M
  have eD : IntKind.i64.wrap (b - n) = b - n := by rw [IntKind.wrap_i64]; omega
  have eR : IntKind.i64.wrap (1000000000 + r) = 1000000000 + r := by rw [IntKind.wrap_i64]; omega
  have eS : wrap64 (m - (b - n) * 1000000000 / (1000000000 + r)) = wh m b r n := by rw [← W0]; unfold wrap64; omega
  generalize (b - n) * 1000000000 / (1000000000 + r) = q at *
  have HM := Lib.hid (show ∀ W, Calls Try.prog 47 #[.int .i64 (IntKind.i64.wrap (b - n)), .int .i64 1000000000, .int .i64 (IntKind.i64.wrap (1000000000 + r))] W fun e w' => e = .returned (.tuple #[.int .i64 q, .int .i64 0]) ∧ Below W.heap.size W w' by rw [eD, eR]; exact M)
  have C := Lib.hid h
  have HW := Lib.hid eS
  have HS := Lib.hid S
  clear eD eR eA M W0 W1 W2 hr hb m0 m1 b0 b1 r0 r1 eS S h
  go_enter Try.func40, Try.ntmps40
  go_wp2_with fail
  refine HS.out.mono ?_
  rintro e w1 ⟨rfl, b1⟩
  have C1 := Lib.hid (C.out.below b1)
  have B1 := Lib.hid b1
  have a0 := C1.out.mark
  have a1 := C1.out.base
  have a2 := C1.out.rate
  clear b1
  go_wp2_with fail
  go_region_held3 (fun w' => w'.cell? ⟨k, 0, none⟩ = some (.int .i64 m) ∧ w'.cell? ⟨k, 1, none⟩ = some (.int .i64 b) ∧ w'.cell? ⟨k, 2, none⟩ = some (.int .i64 r)) (first | exact ⟨C1.out.mark, C1.out.base, C1.out.rate⟩ | exact ⟨K2.out.mark, K2.out.base, K2.out.rate⟩) (first | (go_at_call 47; (with_reducible refine (HM.out _).mono ?_); rintro e w2 ⟨rfl, b2⟩; have K2 := Lib.hid (CK.below (w := w1.drew) C1.out b2); have B2 := Lib.hid (of_drew b2); clear b2))
  have d1 := K2.out.mark
  go_wp2
  go_ret2
  exact ⟨by show Ending.returned (.tuple #[.int .i64 (wrap64 (m - q)), .int .i64 0]) = _; rw [HW.out], B1.out.trans (B2.out.mono B1.out.size)⟩
/-- The document's own clock, as a value. -/
def RV (m b r : Int) : Value := .agg #[.int .i64 m, .int .i64 b, .int .i64 r]
theorem floor_any (x : Int) (h0 : -1000000000000000 ≤ x) (h1 : x ≤ 1000000000000000) (w : World) :
    Calls Try.prog 48 #[.int .i64 x, .int .i64 1000000000] w fun e w' => e = .returned (.int .i64 (x / 1000000000)) ∧ w = w' := by
  have q := floor_eq x
  by_cases hx : x.tmod 1000000000 < 0
  · rw [if_pos hx] at q
    have Q := Lib.hid q
    have hl : -1000001 ≤ x.tdiv 1000000000 := by omega
    have hh : x.tdiv 1000000000 ≤ 1000001 := by omega
    clear q
    go_enter Try.func48, Try.ntmps48
    go_wp2
    go_ret
    exact ⟨by rw [Q.out]; rfl, rfl⟩
  · rw [if_neg hx] at q
    have Q := Lib.hid q
    clear q
    go_enter Try.func48, Try.ntmps48
    go_wp2
    go_ret
    exact ⟨by rw [Q.out]; rfl, rfl⟩
theorem at_any (m b r t : Int) (w : World) (hi : CI m b r) (h0 : m ≤ t) (h1 : t ≤ 1125899906842624) :
    Calls Try.prog 35 #[RV m b r, .int .i64 t] w fun e w' => e = .returned (.int .i64 (sh m b r t)) ∧ Below w.heap.size w w' := by
  have g := sh_range hi h0 h1
  have e := sh_parts m b r t
  have hb := hi.base
  obtain ⟨m0, m1, b0, b1, r0, r1⟩ := hi
  generalize sh m b r t = z at *
  obtain ⟨d, hd⟩ : ∃ d, t - m = d := ⟨_, rfl⟩
  rw [hd] at e
  have d0 : 0 ≤ d := by omega
  have d1 : d ≤ 1125899906842624 := by omega
  have p1 := Int.mul_le_mul_of_nonneg_left r1 (show (0 : Int) ≤ d / 1000000000 by omega)
  have p2 := Int.mul_le_mul_of_nonneg_left r0 (show (0 : Int) ≤ d / 1000000000 by omega)
  have p3 := Int.mul_le_mul_of_nonneg_left r1 (show (0 : Int) ≤ d % 1000000000 by omega)
  have p4 := Int.mul_le_mul_of_nonneg_left r0 (show (0 : Int) ≤ d % 1000000000 by omega)
  have fx : -1000000000000000 ≤ d % 1000000000 * r ∧ d % 1000000000 * r ≤ 1000000000000000 := by omega
  have fy : -1126000000000000 ≤ d / 1000000000 * r ∧ d / 1000000000 * r ≤ 1126000000000000 := by omega
  have F := fun W => floor_any (d % 1000000000 * r) fx.1 fx.2 W
  have eF : IntKind.i64.wrap (d % 1000000000 * r) = d % 1000000000 * r := by rw [IntKind.wrap_i64]; omega
  have HF := Lib.hid (show ∀ W, Calls Try.prog 48 #[.int .i64 (IntKind.i64.wrap (d % 1000000000 * r)), .int .i64 1000000000] W fun e w' => e = .returned (.int .i64 (d % 1000000000 * r / 1000000000)) ∧ W = w' by rw [eF]; exact F)
  have eZ : IntKind.i64.wrap (IntKind.i64.wrap (IntKind.i64.wrap (b + d) + IntKind.i64.wrap (d / 1000000000 * r)) + d % 1000000000 * r / 1000000000) = z := by
    rw [IntKind.wrap_i64, IntKind.wrap_i64, IntKind.wrap_i64, IntKind.wrap_i64]
    omega
  have HZ := Lib.hid eZ
  have HD := Lib.hid (show wrap64 (t - m) = d by unfold wrap64; omega)
  clear eZ F eF p1 p2 p3 p4 e hb fx fy g
  unfold RV
  go_enter Try.func35, Try.ntmps35
  go_wp2_with fail
  have hb := al (Below.refl w.heap.size w) (Obj.cells #[.int .i64 m, .int .i64 b, .int .i64 r] 33)
  have c0 := heap_alloc_new w (Obj.cells #[.int .i64 m, .int .i64 b, .int .i64 r] 33)
  generalize w.alloc (Obj.cells #[.int .i64 m, .int .i64 b, .int .i64 r] 33) = W at *
  have a1 := Lib.hid (cell_of_row W w.heap.size 1 _ _ _ c0)
  have a2 := Lib.hid (cell_of_row W w.heap.size 2 _ _ _ c0)
  clear c0 hd m0 m1 b0 b1 r0 r1 h0 h1 d0 d1 HD
  go_region_held3 (fun w' => w'.cell? ⟨w.heap.size, 1, none⟩ = some (.int .i64 b) ∧ w'.cell? ⟨w.heap.size, 2, none⟩ = some (.int .i64 r)) (first | exact ⟨a1.out, a2.out⟩) (first | (go_at_call 48; (with_reducible refine (HF.out _).mono ?_); rintro e w2 ⟨rfl, rfl⟩))
  go_wp2
  go_ret
  exact ⟨congrArg (fun x => Ending.returned (.int .i64 x)) HZ.out, hb.drew⟩
end Go.Proofs.Ytmkgnkbcdkcboaa.ClockW


/- The document's own clock: Now, Rate, Set. -/
namespace Go.Proofs.Ytmkgnkbcdkcboaa.ClockW
open Go.RowKit TickW Shell
theorem results_clock {fn : Func} {p u : Tmp} (h : fn.results = #[.cell p 33, .tmp u]) (tmps : Array Value) (w : World) (g : Nat) (t : TypeId) (x y z : Value) (fr : Nat × Nat)
    (hp : tmps.getD p undef = .pointer (some ⟨g, 0, none⟩)) (hg : w.heap[g]? = some (.cells #[x, y, z] t fr)) :
    (results fn tmps).run Try.prog w = .ok (.tuple #[.agg #[x, y, z], tmps.getD u undef]) w := by
  have hp' : tmps[p]?.getD undef = .pointer (some ⟨g, 0, none⟩) := by simpa using hp
  simp [results, h, hp', asAddr, run_loadVar_row w g t 33 #[x, y, z] fr _ hg Try.underlying33 rfl (by kernel_rfl)]
theorem ret_clock {fn : Func} {R : Ending → World → Prop} {p u : Tmp} (h : fn.results = #[.cell p 33, .tmp u]) {tmps : Array Value} {w : World} {g : Nat} {x y z : Value} {t : TypeId} {fr : Nat × Nat}
    (hp : tmps.getD p undef = .pointer (some ⟨g, 0, none⟩)) (hg : w.heap[g]? = some (.cells #[x, y, z] t fr)) (hR : R (.returned (.tuple #[.agg #[x, y, z], tmps.getD u undef])) w) :
    bodyPost Try.prog fn R .ret { tmps := tmps, defers := [] } w :=
  bodyPost_ret (results_clock h tmps w g t x y z fr hp hg) rfl hR
theorem refNow_ok (m b r t : Int) (w : World) (hi : CI m b r) (ht : tell m t = true) :
    Calls Try.prog 44 #[RV m b r, .int .i64 t] w fun e w' => e = .returned (.tuple #[.int .i64 (sh m b r t), .int .i64 0]) ∧ Below w.heap.size w w' := by
  have HT := tell_iff.1 ht
  have hm := HT.2
  have ho := okT_iff.2 HT.1
  have S := fun W => at_any m b r t W hi HT.2 HT.1.2
  generalize sh m b r t = z at *
  unfold RV at *
  have HS := Lib.hid S
  clear hi HT ht S
  go_enter Try.func44, Try.ntmps44
  go_wp2_with (first
    | (go_at_call 33; refine (real_any _ _).mono ?_; rintro e w' ⟨rfl, rfl⟩; rw [ho])
    | (go_at_call 35; refine (HS.out _).mono ?_; rintro e w1 ⟨rfl, b1⟩))
  go_ret2
  exact ⟨rfl, (al (Below.refl _ _) _).trans (b1.mono (by simp))⟩
theorem refNow_bad (m b r t : Int) (w : World) (ht : tell m t = false) :
    Calls Try.prog 44 #[RV m b r, .int .i64 t] w fun e w' => e = .returned (.tuple #[.int .i64 0, .int .i64 1]) ∧ Below w.heap.size w w' := by
  unfold RV
  unfold tell at ht
  cases ho : okT t with
  | false =>
    clear ht
    go_enter Try.func44, Try.ntmps44
    go_wp2_with (first
      | (go_at_call 33; refine (real_any _ _).mono ?_; rintro e w' ⟨rfl, rfl⟩; rw [ho]))
    go_ret2
    exact ⟨rfl, al (Below.refl _ _) _⟩
  | true =>
    rw [ho, Bool.true_and, decide_eq_false_iff_not] at ht
    go_enter Try.func44, Try.ntmps44
    go_wp2_with (first
      | (go_at_call 33; refine (real_any _ _).mono ?_; rintro e w' ⟨rfl, rfl⟩; rw [ho]))
    go_ret2
    exact ⟨rfl, al (Below.refl _ _) _⟩
theorem refRate_ok (m b r t r' : Int) (w : World) (hi : CI m b r) (ht : tell m t = true) (hr : okR r' = true) :
    Calls Try.prog 15 #[RV m b r, .int .i64 t, .int .i64 r'] w fun e w' => e = .returned (.tuple #[RV t (sh m b r t) r', .int .i64 0]) ∧ Below w.heap.size w w' := by
  have HT := tell_iff.1 ht
  have hm := HT.2
  have ho := okT_iff.2 HT.1
  have S := fun W => at_any m b r t W hi HT.2 HT.1.2
  generalize sh m b r t = z at *
  unfold RV at *
  have HS := Lib.hid S
  clear hi HT ht S
  go_enter Try.func15, Try.ntmps15
  go_wp2_with (first
    | (go_at_call 33; refine (real_any _ _).mono ?_; rintro e w' ⟨rfl, rfl⟩; rw [ho])
    | (go_at_call 34; refine (fast_any _ _).mono ?_; rintro e w' ⟨rfl, rfl⟩; rw [hr])
    | (go_at_call 35; refine (HS.out _).mono ?_; rintro e w1 ⟨rfl, b1⟩; have c1 : w1.heap[w.heap.size + 1]? = some (.cells #[.int .i64 0, .int .i64 0, .int .i64 0] 33) := row_below b1 (heap_at (by simp) _); have g0 := cell_of_row w1 (w.heap.size + 1) 0 _ _ _ c1; have g1 := cell_of_row w1 (w.heap.size + 1) 1 _ _ _ c1; have g2 := cell_of_row w1 (w.heap.size + 1) 2 _ _ _ c1; have f0 := frozen_of_row w1 (w.heap.size + 1) 0 _ _ c1; have f1 := frozen_of_row w1 (w.heap.size + 1) 1 _ _ c1; have f2 := frozen_of_row w1 (w.heap.size + 1) 2 _ _ c1))
  refine ret_clock rfl rfl (heap_setCell_same _ _ 2 _ _ _ (heap_setCell_same _ _ 1 _ _ _ (heap_setCell_same w1 _ 0 _ _ _ c1))) ⟨rfl, ?_⟩
  have hb : Below w.heap.size w w1 := (al (al (Below.refl w.heap.size w) _) _).trans (b1.mono (by simp; omega))
  exact ((hb.setCell (by simp) _).setCell (by simp) _).setCell (by simp) _
theorem refRate_bad (m b r t r' : Int) (w : World) (ht : (tell m t && okR r') = false) :
    Calls Try.prog 15 #[RV m b r, .int .i64 t, .int .i64 r'] w fun e w' => e = .returned (.tuple #[RV m b r, .int .i64 1]) ∧ Below w.heap.size w w' := by
  unfold RV tell at *
  cases ho : okT t with
  | false =>
    clear ht
    go_enter Try.func15, Try.ntmps15
    go_wp2_with (first
      | (go_at_call 33; refine (real_any _ _).mono ?_; rintro e w' ⟨rfl, rfl⟩; rw [ho]))
    exact ret_clock rfl rfl (heap_at (by simp) _) ⟨rfl, al (al (Below.refl _ _) _) _⟩
  | true =>
    rw [ho, Bool.true_and] at ht
    by_cases hm : m ≤ t
    · rw [decide_eq_true hm, Bool.true_and] at ht
      go_enter Try.func15, Try.ntmps15
      go_wp2_with (first
        | (go_at_call 33; refine (real_any _ _).mono ?_; rintro e w' ⟨rfl, rfl⟩; rw [ho])
        | (go_at_call 34; refine (fast_any _ _).mono ?_; rintro e w' ⟨rfl, rfl⟩; rw [ht]))
      exact ret_clock rfl rfl (heap_at (by simp) _) ⟨rfl, al (al (Below.refl _ _) _) _⟩
    · clear ht
      go_enter Try.func15, Try.ntmps15
      go_wp2_with (first
        | (go_at_call 33; refine (real_any _ _).mono ?_; rintro e w' ⟨rfl, rfl⟩; rw [ho]))
      exact ret_clock rfl rfl (heap_at (by simp) _) ⟨rfl, al (al (Below.refl _ _) _) _⟩
theorem refSet_ok (m b r t r' : Int) (w : World) (ht : tell m t = true) (hr : okB r' = true) :
    Calls Try.prog 17 #[RV m b r, .int .i64 t, .int .i64 r'] w fun e w' => e = .returned (.tuple #[RV t r' r, .int .i64 0]) ∧ Below w.heap.size w w' := by
  have HT := tell_iff.1 ht
  have hm := HT.2
  have ho := okT_iff.2 HT.1
  unfold RV at *
  clear HT ht
  go_enter Try.func17, Try.ntmps17
  go_wp2_with (first
    | (go_at_call 33; refine (real_any _ _).mono ?_; rintro e w' ⟨rfl, rfl⟩; rw [ho])
    | (go_at_call 36; refine (shown_any _ _).mono ?_; rintro e w' ⟨rfl, rfl⟩; rw [hr]))
  exact ret_clock rfl rfl (heap_at (by simp) _) ⟨rfl, al (al (Below.refl _ _) _) _⟩
theorem refSet_bad (m b r t r' : Int) (w : World) (ht : (tell m t && okB r') = false) :
    Calls Try.prog 17 #[RV m b r, .int .i64 t, .int .i64 r'] w fun e w' => e = .returned (.tuple #[RV m b r, .int .i64 1]) ∧ Below w.heap.size w w' := by
  unfold RV tell at *
  cases ho : okT t with
  | false =>
    clear ht
    go_enter Try.func17, Try.ntmps17
    go_wp2_with (first
      | (go_at_call 33; refine (real_any _ _).mono ?_; rintro e w' ⟨rfl, rfl⟩; rw [ho]))
    exact ret_clock rfl rfl (heap_at (by simp) _) ⟨rfl, al (al (Below.refl _ _) _) _⟩
  | true =>
    rw [ho, Bool.true_and] at ht
    by_cases hm : m ≤ t
    · rw [decide_eq_true hm, Bool.true_and] at ht
      go_enter Try.func17, Try.ntmps17
      go_wp2_with (first
        | (go_at_call 33; refine (real_any _ _).mono ?_; rintro e w' ⟨rfl, rfl⟩; rw [ho])
        | (go_at_call 36; refine (shown_any _ _).mono ?_; rintro e w' ⟨rfl, rfl⟩; rw [ht]))
      exact ret_clock rfl rfl (heap_at (by simp) _) ⟨rfl, al (al (Below.refl _ _) _) _⟩
    · clear ht
      go_enter Try.func17, Try.ntmps17
      go_wp2_with (first
        | (go_at_call 33; refine (real_any _ _).mono ?_; rintro e w' ⟨rfl, rfl⟩; rw [ho]))
      exact ret_clock rfl rfl (heap_at (by simp) _) ⟨rfl, al (al (Below.refl _ _) _) _⟩
end Go.Proofs.Ytmkgnkbcdkcboaa.ClockW


/- The document's own When: from a near time on, step by step. -/
namespace Go.Proofs.Ytmkgnkbcdkcboaa.ClockW
open Go.RowKit TickW Shell
def RK (w : World) (k : Nat) (m b r : Int) : Prop := w.heap[k]? = some (.cells #[.int .i64 m, .int .i64 b, .int .i64 r] 33 (0, 0))
theorem RK.mark {w : World} {k : Nat} {m b r : Int} (h : RK w k m b r) : w.cell? ⟨k, 0, none⟩ = some (.int .i64 m) := cell_of_row w k 0 _ _ _ h
theorem RK.base {w : World} {k : Nat} {m b r : Int} (h : RK w k m b r) : w.cell? ⟨k, 1, none⟩ = some (.int .i64 b) := cell_of_row w k 1 _ _ _ h
theorem RK.rate {w : World} {k : Nat} {m b r : Int} (h : RK w k m b r) : w.cell? ⟨k, 2, none⟩ = some (.int .i64 r) := cell_of_row w k 2 _ _ _ h
theorem RK.below {w w1 : World} {k : Nat} {m b r : Int} (h : RK w k m b r) (hb : Below w.heap.size w w1) : RK w1 k m b r := row_below hb h
theorem refWhen_none (m b r n : Int) (w : World) (hi : CI m b r) (hs : sh m b r 1125899906842624 < n) :
    Calls Try.prog 45 #[RV m b r, .int .i64 n] w fun e w' => e = .returned (.tuple #[.int .i64 0, .int .i64 5]) ∧ Below w.heap.size w w' := by
  have S := fun W => at_any m b r 1125899906842624 W hi hi.m1 (Int.le_refl _)
  generalize sh m b r 1125899906842624 = z at *
  unfold RV at *
  clear hi
  go_enter Try.func45, Try.ntmps45
  go_wp2_with (first
    | (go_at_call 35; refine (S _).mono ?_; rintro e w1 ⟨rfl, b1⟩))
  go_ret2
  exact ⟨rfl, (al (Below.refl _ _) _).trans (b1.mono (by simp))⟩
set_option maxHeartbeats 2000000 in
set_option maxRecDepth 100000 in
theorem refWhen_ok (m b r n : Int) (w : World) (hi : CI m b r) (hs : ¬ sh m b r 1125899906842624 < n) :
    Calls Try.prog 45 #[RV m b r, .int .i64 n] w fun e w' => e = .returned (.tuple #[.int .i64 (wh m b r n), .int .i64 0]) ∧ Below w.heap.size w w' := by
  have HI := Lib.hid hi
  have S := fun t W h0 h1 => at_any m b r t W hi h0 h1
  have S0 := fun W => S 1125899906842624 W hi.m1 (Int.le_refl _)
  have HS := Lib.hid S
  have m0 := hi.m0
  have m1 := hi.m1
  have HN := Lib.hid (Int.not_lt.1 hs)
  generalize hz : sh m b r 1125899906842624 = z at *
  have HZ := Lib.hid hz
  unfold RV at *
  clear hi S hz
  go_enter Try.func45, Try.ntmps45
  go_upto_region 3 with (first
    | (go_at_call 35; refine (S0 _).mono ?_; rintro e w1 ⟨rfl, b1⟩))
  have r1 : RK w1 w.heap.size m b r := row_below b1 (heap_alloc_new _ _)
  have B1 := Lib.hid (show Below w.heap.size w w1 from (al (Below.refl _ _) _).trans (b1.mono (by simp)))
  have R1 := Lib.hid r1
  have a0 := r1.mark
  clear b1 r1 S0 hs
  go_wp2_with fail
  clear a0
  go_loopw [6, 7] (fun tv sv wr => ∃ (t s : Int), tv = .int .i64 t ∧ sv = .int .i64 s ∧ Hid (m ≤ t ∧ t ≤ 1125899906842624 ∧ (t = m ∨ sh m b r t < n)) ∧ Hid (0 ≤ s ∧ s ≤ 1125899906842624 ∧ (s = 0 → 1125899906842624 < t + 1 ∨ n ≤ sh m b r (t + 1))) ∧ Hid (RK wr w.heap.size m b r) ∧ Hid (Below w.heap.size w wr)) (fun _ sv _ => (intOf sv).toNat)
  case atStart => exact ⟨m, _, rfl, rfl, Lib.hid ⟨Int.le_refl _, m1, Or.inl rfl⟩, Lib.hid ⟨by decide, by decide, fun h => by simp at h⟩, R1, B1⟩
  case round =>
    obtain ⟨t, s, rfl, rfl, HT, HP, HR, HB⟩ := hrel
    by_cases hs : 0 < s
    · have sb := HP.out.2.1
      go_wp2_with fail
      obtain ⟨w0, hw0⟩ : ∃ w0, w0 = wr := ⟨_, rfl⟩
      subst hw0
      go_loopw [6] (fun tv wr => ∃ (t : Int), tv = .int .i64 t ∧ Hid (m ≤ t ∧ t ≤ 1125899906842624 ∧ (t = m ∨ sh m b r t < n)) ∧ Hid (RK wr w.heap.size m b r) ∧ Hid (Below w.heap.size w wr)) (fun tv _ => (1125899906842624 - intOf tv).toNat)
      case atStart => exact ⟨t, rfl, HT, HR, HB⟩
      case round =>
        clear HT HR HB
        obtain ⟨t, rfl, HT, HR, HB⟩ := hrel
        have t0 := HT.out.1
        have t1 := HT.out.2.1
        have g0 := HR.out.mark
        have g1 := HR.out.base
        have g2 := HR.out.rate
        by_cases hc : t + s ≤ 1125899906842624
        · have A := fun W => HS.out (t + s) W (by omega) hc
          by_cases hn : sh m b r (t + s) < n
          · generalize hy : sh m b r (t + s) = y at *
            have HY := Lib.hid hy
            clear hy
            go_wp2_with (first
              | (go_at_call 35; refine (A _).mono ?_; rintro e w2 ⟨rfl, b2⟩))
            go_roundw
            case rel => exact ⟨_, rfl, Lib.hid ⟨by omega, hc, Or.inr (by rw [HY.out]; exact hn)⟩, Lib.hid (HR.out.below b2), Lib.hid (HB.out.trans (b2.mono HB.out.size))⟩
            case measure => simp only [intOf]; omega
          · go_wp2_with (first
              | (go_at_call 35; refine (A _).mono ?_; rintro e w2 ⟨rfl, b2⟩))
            go_roundw
            case rel => exact ⟨t, s / 2, rfl, rfl, HT, Lib.hid ⟨by omega, by omega, fun h => Or.inr (by rw [show t + 1 = t + s by omega]; omega)⟩, Lib.hid (HR.out.below b2), Lib.hid (HB.out.trans (b2.mono HB.out.size))⟩
            case measure => simp only [intOf]; omega
        · go_wp2
          go_roundw
          case rel => exact ⟨t, s / 2, rfl, rfl, HT, Lib.hid ⟨by omega, by omega, fun h => Or.inl (by omega)⟩, HR, HB⟩
          case measure => simp only [intOf]; omega
    · have s0 : s = 0 := by have := HP.out.1; omega
      subst s0
      have A := fun W => HS.out t W HT.out.1 HT.out.2.1
      have g0 := HR.out.mark
      have g1 := HR.out.base
      have g2 := HR.out.rate
      have HQ := Lib.hid (HP.out.2.2 rfl)
      clear HP
      by_cases hn : sh m b r t < n
      · have hu : t + 1 = wh m b r n := by
          rcases HQ.out with h | h
          · exfalso
            have : t = 1125899906842624 := by have := HT.out.2.1; omega
            have h2 := HN.out
            rw [← HZ.out, ← this] at h2
            omega
          · exact wh_only HI.out.r0 (by have := HT.out.1; omega) h (Or.inr (by rw [show t + 1 - 1 = t by omega]; exact hn))
        have HU := Lib.hid hu
        have t0 := HT.out.1
        have t1 := HT.out.2.1
        generalize sh m b r t = y at *
        clear hu
        go_wp2_with (first
          | (go_at_call 35; refine (A _).mono ?_; rintro e w2 ⟨rfl, b2⟩))
        go_ret2
        exact ⟨by rw [← HU.out]; rfl, HB.out.trans (b2.mono HB.out.size)⟩
      · have hu : t = wh m b r n := wh_only HI.out.r0 HT.out.1 (Int.not_lt.1 hn) (by
          rcases HT.out.2.2 with h | h
          · exact Or.inl h
          · exact absurd h hn)
        have HU := Lib.hid hu
        generalize sh m b r t = y at *
        clear hu
        go_wp2_with (first
          | (go_at_call 35; refine (A _).mono ?_; rintro e w2 ⟨rfl, b2⟩))
        go_ret2
        exact ⟨by rw [← HU.out]; rfl, HB.out.trans (b2.mono HB.out.size)⟩
end Go.Proofs.Ytmkgnkbcdkcboaa.ClockW

