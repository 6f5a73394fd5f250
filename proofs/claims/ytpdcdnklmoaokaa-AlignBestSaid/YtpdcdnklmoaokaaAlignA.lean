/- Package align's small functions: an Align in memory; times; what a compressed frame is. -/
import Derived.Test.YtpdcdnklmoaokaaCrewA
import Derived.Test.YtpdcdnklmoaokaaFrameG
import Derived.Test.YtpdcdnklmoaokaaSmall
namespace Go.Proofs.Ytpdcdnklmoaokaa.AlignW
open Go.RowKit Shell
open CrewW (mem count_any)
open FrameW (CV rightC control_ok control_bad)
def okT (t : Int) : Bool := decide (0 ≤ t) && decide (t ≤ 1125899906842624)
theorem okT_iff {t : Int} : okT t = true ↔ 0 ≤ t ∧ t ≤ 1125899906842624 := by unfold okT; simp
/-- A frame that is right, that a switch compressed, and that has a host. -/
def okF (k f y c l : Int) : Bool := decide (rightC k f y c l) && decide (k = 2) && decide (6 ≤ f) && decide (c ≠ 0)
theorem okF_iff {k f y c l : Int} : okF k f y c l = true ↔ rightC k f y c l ∧ k = 2 ∧ 6 ≤ f ∧ c ≠ 0 := by unfold okF; simp [and_assoc]
/-- An Align: its cycle, when a frame is expected, how far from that it may be; by switch what its frame told. -/
abbrev abx (y e a : Int) (B : Nat → Int) (C : Nat → Nat) : Obj := .cells #[.int .i64 y, .int .i64 e, .int .i64 a, .int .i64 (B 0), .int .u32 (C 0 : Int), .int .i64 (B 1), .int .u32 (C 1 : Int)] 56 (0, 0)
def Fit (y e a : Int) : Prop := (1 ≤ y ∧ y ≤ 1073741824) ∧ (0 ≤ e ∧ e ≤ 3145728) ∧ 0 ≤ a ∧ a ≤ 3145728
theorem cells7 {w : World} {j : Nat} {v0 v1 v2 v3 v4 v5 v6 : Value} {t : TypeId} (h : w.heap[j]? = some (.cells #[v0, v1, v2, v3, v4, v5, v6] t (0, 0))) : w.cell? ⟨j, 0, none⟩ = some v0 ∧ w.cell? ⟨j, 1, none⟩ = some v1 ∧ w.cell? ⟨j, 2, none⟩ = some v2 ∧ w.cell? ⟨j, 3, none⟩ = some v3 ∧ w.cell? ⟨j, 4, none⟩ = some v4 ∧ w.cell? ⟨j, 5, none⟩ = some v5 ∧ w.cell? ⟨j, 6, none⟩ = some v6 :=
  ⟨cell_of_row w j 0 _ _ _ h, cell_of_row w j 1 _ _ _ h, cell_of_row w j 2 _ _ _ h, cell_of_row w j 3 _ _ _ h, cell_of_row w j 4 _ _ _ h, cell_of_row w j 5 _ _ _ h, cell_of_row w j 6 _ _ _ h⟩
theorem frozen7 {w : World} {j : Nat} {v0 v1 v2 v3 v4 v5 v6 : Value} {t : TypeId} (h : w.heap[j]? = some (.cells #[v0, v1, v2, v3, v4, v5, v6] t (0, 0))) : w.frozen? ⟨j, 3, none⟩ = false ∧ w.frozen? ⟨j, 4, none⟩ = false ∧ w.frozen? ⟨j, 5, none⟩ = false ∧ w.frozen? ⟨j, 6, none⟩ = false :=
  ⟨frozen_of_row w j 3 _ _ h, frozen_of_row w j 4 _ _ h, frozen_of_row w j 5 _ _ h, frozen_of_row w j 6 _ _ h⟩
theorem mem_pos (c : Nat) (h : c < 64) : 0 < (mem c).length ↔ c ≠ 0 := by
  have H : ∀ c ∈ List.range 64, (0 < (mem c).length ↔ c ≠ 0) := by decide +kernel
  exact H c (List.mem_range.2 h)
theorem isTime_any (n : Int) (w : World) : Calls Try.prog 18 #[.int .i64 n] w fun e w' => e = .returned (.bool (okT n)) ∧ w = w' := by
  unfold okT
  by_cases h : 0 ≤ n
  · rw [decide_eq_true h, Bool.true_and]
    go_enter Try.func18, Try.ntmps18
    go_wp2
    go_ret
    exact ⟨rfl, rfl⟩
  · rw [decide_eq_false h, Bool.false_and]
    go_enter Try.func18, Try.ntmps18
    go_wp2
    go_ret
    exact ⟨rfl, rfl⟩
set_option maxHeartbeats 2000000 in
theorem isCompressed_any (k f y c l : Int) (hc : 0 ≤ c) (w : World) : Calls Try.prog 19 #[CV k f y c l] w fun e w' => e = .returned (.bool (okF k f y c l)) ∧ Below w.heap.size w w' := by
  unfold okF
  have X := Lib.hid ((Stay.start w).alloc (.cells #[.int .i64 k, .int .i64 f, .int .i64 y, .int .u32 c, .int .i64 l] 38 (0, 0)))
  by_cases h : rightC k f y c l
  · rw [decide_eq_true h, Bool.true_and]
    have C := Lib.hid (fun W => control_ok k f y c l W h)
    have h' := h
    unfold rightC at h'
    obtain ⟨hk, -, -, -, -, -, hc1, -, -⟩ := h'
    obtain ⟨c, rfl⟩ := Int.eq_ofNat_of_zero_le hc
    have M := mem_pos c (by omega)
    have K := Lib.hid (fun W => count_any c W (by omega))
    generalize (mem c).length = m at *
    clear h hc hc1
    rcases hk with rfl | rfl
    · rw [show (decide ((1 : Int) = 2) && decide (6 ≤ f) && decide ((c : Int) ≠ 0)) = false by simp]
      clear M
      go_enter Try.func19, Try.ntmps19
      go_wp2_with (go_at_call 34; refine (C.out _).mono ?_; rintro e w1 ⟨v, rfl, -, b1⟩; have X1 := Lib.hid (X.out.next b1); clear b1; obtain ⟨a0, a1, a2, a3, a4⟩ := FrameW.cells5 (X1.out.at 0 rfl))
      go_ret
      exact ⟨rfl, X1.out.b⟩
    · by_cases hf : 6 ≤ f
      · by_cases h0 : c = 0
        · rw [show (decide ((2 : Int) = 2) && decide (6 ≤ f) && decide ((c : Int) ≠ 0)) = false by simp [h0]]
          have hm : m = 0 := by omega
          subst hm
          clear M h0
          go_enter Try.func19, Try.ntmps19
          go_wp2_with (first
            | (go_at_call 34; refine (C.out _).mono ?_; rintro e w1 ⟨v, rfl, -, b1⟩; have X1 := Lib.hid (X.out.next b1); clear b1; obtain ⟨a0, a1, a2, a3, a4⟩ := FrameW.cells5 (X1.out.at 0 rfl))
            | (go_at_call 21; refine (K.out _).mono ?_; rintro e w2 ⟨rfl, b2⟩; have X2 := Lib.hid (X1.out.next b2); clear b2))
          go_ret
          exact ⟨rfl, X2.out.b⟩
        · rw [show (decide ((2 : Int) = 2) && decide (6 ≤ f) && decide ((c : Int) ≠ 0)) = true by simp [hf, h0]]
          have hm : 0 < m := M.2 h0
          have hm' : (0 : Int) < (m : Int) := by omega
          clear M h0
          go_enter Try.func19, Try.ntmps19
          go_wp2_with (first
            | (go_at_call 34; refine (C.out _).mono ?_; rintro e w1 ⟨v, rfl, -, b1⟩; have X1 := Lib.hid (X.out.next b1); clear b1; obtain ⟨a0, a1, a2, a3, a4⟩ := FrameW.cells5 (X1.out.at 0 rfl))
            | (go_at_call 21; refine (K.out _).mono ?_; rintro e w2 ⟨rfl, b2⟩; have X2 := Lib.hid (X1.out.next b2); clear b2))
          go_ret
          exact ⟨rfl, X2.out.b⟩
      · rw [show (decide ((2 : Int) = 2) && decide (6 ≤ f) && decide ((c : Int) ≠ 0)) = false by simp [hf]]
        clear M
        go_enter Try.func19, Try.ntmps19
        go_wp2_with (go_at_call 34; refine (C.out _).mono ?_; rintro e w1 ⟨v, rfl, -, b1⟩; have X1 := Lib.hid (X.out.next b1); clear b1; obtain ⟨a0, a1, a2, a3, a4⟩ := FrameW.cells5 (X1.out.at 0 rfl))
        go_ret
        exact ⟨rfl, X1.out.b⟩
  · rw [decide_eq_false h, Bool.false_and, Bool.false_and, Bool.false_and]
    have C := Lib.hid (fun W => control_bad k f y c l W h hc)
    clear h
    go_enter Try.func19, Try.ntmps19
    go_wp2_with (go_at_call 34; refine (C.out _).mono ?_; rintro e w1 ⟨rfl, b1⟩; have X1 := Lib.hid (X.out.next b1); clear b1; obtain ⟨a0, a1, a2, a3, a4⟩ := FrameW.cells5 (X1.out.at 0 rfl))
    go_ret
    exact ⟨rfl, X1.out.b⟩
end Go.Proofs.Ytpdcdnklmoaokaa.AlignW
