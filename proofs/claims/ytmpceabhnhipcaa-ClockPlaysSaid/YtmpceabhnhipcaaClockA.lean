/- The small functions of package clock, and those of the document's own answer: times, bases, rates; what a clock shows. -/
import Derived.Test.YtmpceabhnhipcaaTickInts
import Derived.Test.YtmpceabhnhipcaaClockP
namespace Go.Proofs.Ytmpceabhnhipcaa.ClockW
open Go.RowKit TickW
def inn (n lo hi : Int) : Bool := decide (lo ≤ n) && decide (n ≤ hi)
def okT (t : Int) : Bool := inn t 0 1125899906842624
def okB (t : Int) : Bool := inn t (-1125899906842624) 1125899906842624
def okR (t : Int) : Bool := inn t (-1000000) 1000000
theorem inn_iff {n lo hi : Int} : inn n lo hi = true ↔ lo ≤ n ∧ n ≤ hi := by unfold inn; simp
theorem okT_iff {n : Int} : okT n = true ↔ 0 ≤ n ∧ n ≤ 1125899906842624 := inn_iff
theorem okB_iff {n : Int} : okB n = true ↔ -1125899906842624 ≤ n ∧ n ≤ 1125899906842624 := inn_iff
theorem okR_iff {n : Int} : okR n = true ↔ -1000000 ≤ n ∧ n ≤ 1000000 := inn_iff
theorem within_any (n lo hi : Int) (w : World) : Calls Try.prog 38 #[.int .i64 n, .int .i64 lo, .int .i64 hi] w fun e w' => e = .returned (.bool (inn n lo hi)) ∧ w = w' := by
  unfold inn
  by_cases h : lo ≤ n
  · rw [decide_eq_true h, Bool.true_and]
    go_enter Try.func38, Try.ntmps38
    go_wp2
    go_ret
    exact ⟨rfl, rfl⟩
  · rw [decide_eq_false h, Bool.false_and]
    go_enter Try.func38, Try.ntmps38
    go_wp2
    go_ret
    exact ⟨rfl, rfl⟩
theorem isTime_any (n : Int) (w : World) : Calls Try.prog 27 #[.int .i64 n] w fun e w' => e = .returned (.bool (okT n)) ∧ w = w' := by
  unfold okT
  go_enter Try.func27, Try.ntmps27
  go_wp2_with (go_at_call 38; refine (within_any _ _ _ _).mono ?_; rintro e w' ⟨rfl, rfl⟩)
  go_ret
  exact ⟨rfl, rfl⟩
theorem isBase_any (n : Int) (w : World) : Calls Try.prog 28 #[.int .i64 n] w fun e w' => e = .returned (.bool (okB n)) ∧ w = w' := by
  unfold okB
  go_enter Try.func28, Try.ntmps28
  go_wp2_with (go_at_call 38; refine (within_any _ _ _ _).mono ?_; rintro e w' ⟨rfl, rfl⟩)
  go_ret
  exact ⟨rfl, rfl⟩
theorem isRate_any (n : Int) (w : World) : Calls Try.prog 29 #[.int .i64 n] w fun e w' => e = .returned (.bool (okR n)) ∧ w = w' := by
  unfold okR
  go_enter Try.func29, Try.ntmps29
  go_wp2_with (go_at_call 38; refine (within_any _ _ _ _).mono ?_; rintro e w' ⟨rfl, rfl⟩)
  go_ret
  exact ⟨rfl, rfl⟩
theorem real_any (n : Int) (w : World) : Calls Try.prog 11 #[.int .i64 n] w fun e w' => e = .returned (.bool (okT n)) ∧ w = w' := by
  unfold okT inn
  by_cases h : 0 ≤ n
  · rw [decide_eq_true h, Bool.true_and]
    go_enter Try.func11, Try.ntmps11
    go_wp2
    go_ret
    exact ⟨rfl, rfl⟩
  · rw [decide_eq_false h, Bool.false_and]
    go_enter Try.func11, Try.ntmps11
    go_wp2
    go_ret
    exact ⟨rfl, rfl⟩
theorem fast_any (n : Int) (w : World) : Calls Try.prog 13 #[.int .i64 n] w fun e w' => e = .returned (.bool (okR n)) ∧ w = w' := by
  unfold okR inn
  by_cases h : -1000000 ≤ n
  · rw [decide_eq_true h, Bool.true_and]
    go_enter Try.func13, Try.ntmps13
    go_wp2
    go_ret
    exact ⟨rfl, rfl⟩
  · rw [decide_eq_false h, Bool.false_and]
    go_enter Try.func13, Try.ntmps13
    go_wp2
    go_ret
    exact ⟨rfl, rfl⟩
theorem shown_any (n : Int) (w : World) : Calls Try.prog 12 #[.int .i64 n] w fun e w' => e = .returned (.bool (okB n)) ∧ w = w' := by
  unfold okB inn
  by_cases h : -1125899906842624 ≤ n
  · rw [decide_eq_true h, Bool.true_and]
    go_enter Try.func12, Try.ntmps12
    go_wp2
    go_ret
    exact ⟨rfl, rfl⟩
  · rw [decide_eq_false h, Bool.false_and]
    go_enter Try.func12, Try.ntmps12
    go_wp2
    go_ret
    exact ⟨rfl, rfl⟩
/-- A clock's cells: mark, base, rate. -/
def CK (w : World) (k : Nat) (m b r : Int) : Prop := w.heap[k]? = some (.cells #[.int .i64 m, .int .i64 b, .int .i64 r] 53 (0, 0))
theorem CK.mark {w : World} {k : Nat} {m b r : Int} (h : CK w k m b r) : w.cell? ⟨k, 0, none⟩ = some (.int .i64 m) := cell_of_row w k 0 _ _ _ h
theorem CK.base {w : World} {k : Nat} {m b r : Int} (h : CK w k m b r) : w.cell? ⟨k, 1, none⟩ = some (.int .i64 b) := cell_of_row w k 1 _ _ _ h
theorem CK.rate {w : World} {k : Nat} {m b r : Int} (h : CK w k m b r) : w.cell? ⟨k, 2, none⟩ = some (.int .i64 r) := cell_of_row w k 2 _ _ _ h
theorem CK.lt {w : World} {k : Nat} {m b r : Int} (h : CK w k m b r) : k < w.heap.size := Lib.lt_of_cell h.mark
theorem CK.below {w w1 : World} {k : Nat} {m b r : Int} (h : CK w k m b r) (hb : Below w.heap.size w w1) : CK w1 k m b r := row_below hb h
/-- What the function says of a clock and a time. -/
def tell (m t : Int) : Bool := okT t && decide (m ≤ t)
theorem tell_iff {m t : Int} : tell m t = true ↔ (0 ≤ t ∧ t ≤ 1125899906842624) ∧ m ≤ t := by unfold tell; rw [Bool.and_eq_true, okT_iff, decide_eq_true_iff]
theorem tells_any (k : Nat) (m b r t : Int) (w : World) (h : CK w k m b r) : Calls Try.prog 30 #[.pointer (some ⟨k, 0, none⟩), .int .i64 t] w fun e w' => e = .returned (.bool (tell m t)) ∧ w = w' := by
  have c0 := h.mark
  unfold tell
  cases ho : okT t with
  | true =>
    rw [Bool.true_and]
    go_enter Try.func30, Try.ntmps30
    go_wp2_with (go_at_call 27; refine (isTime_any _ _).mono ?_; rintro e w' ⟨rfl, rfl⟩; rw [ho])
    go_ret
    exact ⟨rfl, rfl⟩
  | false =>
    rw [Bool.false_and]
    go_enter Try.func30, Try.ntmps30
    go_wp2_with (go_at_call 27; refine (isTime_any _ _).mono ?_; rintro e w' ⟨rfl, rfl⟩; rw [ho])
    go_ret
    exact ⟨rfl, rfl⟩
theorem tells_nil (t : Int) (w : World) : Calls Try.prog 30 #[.pointer none, .int .i64 t] w fun e w' => e = .returned (.bool false) ∧ w = w' := by
  go_enter Try.func30, Try.ntmps30
  go_wp2
  go_ret
  exact ⟨rfl, rfl⟩
end Go.Proofs.Ytmpceabhnhipcaa.ClockW
