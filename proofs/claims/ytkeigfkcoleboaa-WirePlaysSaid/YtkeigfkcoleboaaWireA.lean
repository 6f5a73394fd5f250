/- The small functions of package wire, and those of the document's own answer: times, sizes, whether a wire is busy; a wire's cells. -/
import Derived.Test.YtkeigfkcoleboaaFrameEq
import Derived.Test.YtkeigfkcoleboaaSmall
import Derived.Test.YtkeigfkcoleboaaRow3
namespace Go.Proofs.Ytkeigfkcoleboaa.WireW
open Go.RowKit FrameW Shell
def inn (n lo hi : Int) : Bool := decide (lo ≤ n) && decide (n ≤ hi)
theorem inn_iff {n lo hi : Int} : inn n lo hi = true ↔ lo ≤ n ∧ n ≤ hi := by unfold inn; simp
def okT (t : Int) : Bool := inn t 0 1125899906842624
def okS (n : Int) : Bool := inn n 64 1518
def okD (d : Int) : Bool := inn d 0 1048576
def bsy (b o t : Int) : Bool := decide (b ≤ t) && decide (t < o)
theorem okT_iff {n : Int} : okT n = true ↔ 0 ≤ n ∧ n ≤ 1125899906842624 := inn_iff
theorem okS_iff {n : Int} : okS n = true ↔ 64 ≤ n ∧ n ≤ 1518 := inn_iff
theorem okD_iff {n : Int} : okD n = true ↔ 0 ≤ n ∧ n ≤ 1048576 := inn_iff
theorem bsy_iff {b o t : Int} : bsy b o t = true ↔ b ≤ t ∧ t < o := by unfold bsy; simp
theorem tim_bounds (n : Int) : 512 ≤ tim n ∧ tim n ≤ 12144 := by
  unfold tim
  split
  · omega
  · split <;> omega
theorem between_any (n lo hi : Int) (w : World) : Calls Try.prog 18 #[.int .i64 n, .int .i64 lo, .int .i64 hi] w fun e w' => e = .returned (.bool (inn n lo hi)) ∧ w = w' := by
  unfold inn
  by_cases h : lo ≤ n
  · rw [decide_eq_true h, Bool.true_and]
    go_enter Try.func18, Try.ntmps18
    go_wp2
    go_ret
    exact ⟨rfl, rfl⟩
  · rw [decide_eq_false h, Bool.false_and]
    go_enter Try.func18, Try.ntmps18
    go_wp2
    go_ret
    exact ⟨rfl, rfl⟩
theorem betweenN_any (n lo hi : Int) (w : World) : Calls Try.prog 20 #[.int .i64 n, .int .i64 lo, .int .i64 hi] w fun e w' => e = .returned (.bool (inn n lo hi)) ∧ w = w' := by
  unfold inn
  by_cases h : lo ≤ n
  · rw [decide_eq_true h, Bool.true_and]
    go_enter Try.func20, Try.ntmps20
    go_wp2
    go_ret
    exact ⟨rfl, rfl⟩
  · rw [decide_eq_false h, Bool.false_and]
    go_enter Try.func20, Try.ntmps20
    go_wp2
    go_ret
    exact ⟨rfl, rfl⟩
theorem isTime_any (n : Int) (w : World) : Calls Try.prog 19 #[.int .i64 n] w fun e w' => e = .returned (.bool (okT n)) ∧ w = w' := by
  unfold okT
  go_enter Try.func19, Try.ntmps19
  go_wp2_with (go_at_call 18; refine (between_any _ _ _ _).mono ?_; rintro e w' ⟨rfl, rfl⟩)
  go_ret
  exact ⟨rfl, rfl⟩
theorem real_any (n : Int) (w : World) : Calls Try.prog 14 #[.int .i64 n] w fun e w' => e = .returned (.bool (okT n)) ∧ w = w' := by
  unfold okT inn
  by_cases h : 0 ≤ n
  · rw [decide_eq_true h, Bool.true_and]
    go_enter Try.func14, Try.ntmps14
    go_wp2
    go_ret
    exact ⟨rfl, rfl⟩
  · rw [decide_eq_false h, Bool.false_and]
    go_enter Try.func14, Try.ntmps14
    go_wp2
    go_ret
    exact ⟨rfl, rfl⟩
/-- A wire's cells: its delay, and when the last frame began and is off. -/
def WK (w : World) (k : Nat) (d b o : Int) : Prop := w.heap[k]? = some (.cells #[.int .i64 d, .int .i64 b, .int .i64 o] 50 (0, 0))
theorem WK.cells {w : World} {k : Nat} {d b o : Int} (h : WK w k d b o) : w.cell? ⟨k, 0, none⟩ = some (.int .i64 d) ∧ w.cell? ⟨k, 1, none⟩ = some (.int .i64 b) ∧ w.cell? ⟨k, 2, none⟩ = some (.int .i64 o) := cells3 h
theorem WK.lt {w : World} {k : Nat} {d b o : Int} (h : WK w k d b o) : k < w.heap.size := lt_of_heap h
theorem WK.below {w w1 : World} {k : Nat} {d b o : Int} (h : WK w k d b o) (hb : Below w.heap.size w w1) : WK w1 k d b o := (hb.block k h.lt).trans h
theorem WK.kept {k j : Nat} {d b o : Int} {w w' : World} (h : WK w j d b o) (hk : Kept k w w') (hj : j ≠ k) : WK w' j d b o := (hk.block j hj h.lt).trans h
theorem busy_any (k : Nat) (d b o t : Int) (w : World) (h : WK w k d b o) : Calls Try.prog 21 #[.pointer (some ⟨k, 0, none⟩), .int .i64 t] w fun e w' => e = .returned (.bool (bsy b o t)) ∧ w = w' := by
  obtain ⟨-, c1, c2⟩ := h.cells
  unfold bsy
  by_cases hb : b ≤ t
  · rw [decide_eq_true hb, Bool.true_and]
    go_enter Try.func21, Try.ntmps21
    go_wp2
    go_ret
    exact ⟨rfl, rfl⟩
  · rw [decide_eq_false hb, Bool.false_and]
    go_enter Try.func21, Try.ntmps21
    go_wp2
    go_ret
    exact ⟨rfl, rfl⟩
/-- The document's own wire, as a value. -/
abbrev RV (d b o : Int) : Value := .agg #[.int .i64 d, .int .i64 b, .int .i64 o]
abbrev rbox (d b o : Int) : Obj := .cells #[.int .i64 d, .int .i64 b, .int .i64 o] 29 (0, 0)
theorem refBusy_any (d b o t : Int) (w : World) : Calls Try.prog 10 #[RV d b o, .int .i64 t] w fun e w' => e = .returned (.bool (bsy b o t)) ∧ Below w.heap.size w w' := by
  unfold bsy
  by_cases hb : b ≤ t
  · rw [decide_eq_true hb, Bool.true_and]
    go_enter Try.func10, Try.ntmps10
    go_wp2
    go_ret
    exact ⟨rfl, (Below.refl _ _).alloc (Nat.le_refl _) _⟩
  · rw [decide_eq_false hb, Bool.false_and]
    go_enter Try.func10, Try.ntmps10
    go_wp2
    go_ret
    exact ⟨rfl, (Below.refl _ _).alloc (Nat.le_refl _) _⟩
end Go.Proofs.Ytkeigfkcoleboaa.WireW
