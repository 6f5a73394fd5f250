/- The comparison of two things; how a pile's methods are found. -/
import Derived.Test.YtmkgnkbcdkcboaaPqP
import Derived.Test.YtmkgnkbcdkcboaaProg
import Derived.Deep.RegionHeld3
import Derived.Deep.AppendLies
import Derived.Lib.Hide
import Derived.ProofKit
namespace Go.Proofs.Ytmkgnkbcdkcboaa.QueueW
open Go.RowKit
theorem nan_any (x : Int) (w : World) : Calls Try.prog 89 #[.int .i64 x] w fun e w' => e = .returned (.bool false) ∧ w' = w := by
  go_enter Try.func89, Try.ntmps89
  go_wp2
  go_ret
  exact ⟨rfl, rfl⟩
theorem cmp_any (x y : Int) (w : World) : Calls Try.prog 88 #[.int .i64 x, .int .i64 y] w fun e w' => e = .returned (.int .i64 (cmpI x y)) ∧ w' = w := by
  unfold cmpI
  by_cases h : x < y
  · rw [if_pos h]
    go_enter Try.func88, Try.ntmps88
    go_wp2_with (go_at_call 89; refine (nan_any _ _).mono ?_; rintro e w' ⟨rfl, rfl⟩)
    go_ret
    exact ⟨rfl, rfl⟩
  · rw [if_neg h]
    by_cases g : y < x
    · rw [if_pos g]
      go_enter Try.func88, Try.ntmps88
      go_wp2_with (go_at_call 89; refine (nan_any _ _).mono ?_; rintro e w' ⟨rfl, rfl⟩)
      go_ret
      exact ⟨rfl, rfl⟩
    · rw [if_neg g]
      go_enter Try.func88, Try.ntmps88
      go_wp2_with (go_at_call 89; refine (nan_any _ _).mono ?_; rintro e w' ⟨rfl, rfl⟩)
      go_ret
      exact ⟨rfl, rfl⟩
def or4 (a b c d : Int) : Int := if a ≠ 0 then a else if b ≠ 0 then b else if c ≠ 0 then c else d
abbrev row4 (a b c d : Int) : Obj := .cells #[.int .i64 a, .int .i64 b, .int .i64 c, .int .i64 d] 3
theorem cells4 {w : World} {j : Nat} {x y z u : Value} {t : TypeId} {fr : Nat × Nat} (h : w.heap[j]? = some (.cells #[x, y, z, u] t fr)) : w.cell? ⟨j, 0, none⟩ = some x ∧ w.cell? ⟨j, 1, none⟩ = some y ∧ w.cell? ⟨j, 2, none⟩ = some z ∧ w.cell? ⟨j, 3, none⟩ = some u :=
  ⟨cell_of_row w j 0 _ _ _ h, cell_of_row w j 1 _ _ _ h, cell_of_row w j 2 _ _ _ h, cell_of_row w j 3 _ _ _ h⟩
theorem cells9 {w : World} {j : Nat} {v0 v1 v2 v3 v4 v5 v6 v7 v8 : Value} {t : TypeId} {fr : Nat × Nat} (h : w.heap[j]? = some (.cells #[v0, v1, v2, v3, v4, v5, v6, v7, v8] t fr)) : w.cell? ⟨j, 0, none⟩ = some v0 ∧ w.cell? ⟨j, 1, none⟩ = some v1 ∧ w.cell? ⟨j, 2, none⟩ = some v2 ∧ w.cell? ⟨j, 3, none⟩ = some v3 ∧ w.cell? ⟨j, 4, none⟩ = some v4 ∧ w.cell? ⟨j, 5, none⟩ = some v5 ∧ w.cell? ⟨j, 6, none⟩ = some v6 ∧ w.cell? ⟨j, 7, none⟩ = some v7 ∧ w.cell? ⟨j, 8, none⟩ = some v8 :=
  ⟨cell_of_row w j 0 _ _ _ h, cell_of_row w j 1 _ _ _ h, cell_of_row w j 2 _ _ _ h, cell_of_row w j 3 _ _ _ h, cell_of_row w j 4 _ _ _ h, cell_of_row w j 5 _ _ _ h, cell_of_row w j 6 _ _ _ h, cell_of_row w j 7 _ _ _ h, cell_of_row w j 8 _ _ _ h⟩
theorem or_any (a b c d : Int) (g cap : Nat) (w : World) (h : w.heap[g]? = some (row4 a b c d)) : Calls Try.prog 87 #[.slice (some ⟨g, 0, none⟩) 4 cap] w fun e w' => e = .returned (.int .i64 (or4 a b c d)) ∧ w' = w := by
  obtain ⟨a0, a1, a2, a3⟩ := cells4 h
  clear h
  go_enter Try.func87, Try.ntmps87
  go_wp2
  go_loopw [8] (fun iv wr => ∃ k : Nat, iv = .int .i64 k ∧ k ≤ 4 ∧ Hid ((0 < k → a = 0) ∧ (1 < k → b = 0) ∧ (2 < k → c = 0) ∧ (3 < k → d = 0)) ∧ wr = w) (fun iv _ => (4 - intOf iv).toNat)
  case atStart => exact ⟨0, rfl, by omega, Lib.hid ⟨by omega, by omega, by omega, by omega⟩, rfl⟩
  case round =>
    obtain ⟨k, rfl, hk, H, rfl⟩ := hrel
    match k, hk with
    | 0, _ =>
      by_cases h : a = 0
      · have HH := Lib.hid h
        subst h
        go_wp2
        go_roundw
        case rel => exact ⟨1, rfl, by omega, Lib.hid ⟨by simp, by omega, by omega, by omega⟩, trivial⟩
        case measure => simp [intOf]
      · go_wp2
        go_ret
        exact ⟨by unfold or4; rw [if_pos h]; rfl, rfl⟩
    | 1, _ =>
      have e0 := H.out.1 (by omega)
      by_cases h : b = 0
      · subst h
        go_wp2
        go_roundw
        case rel => exact ⟨2, rfl, by omega, Lib.hid ⟨fun _ => e0, by simp, by omega, by omega⟩, trivial⟩
        case measure => simp [intOf]
      · go_wp2
        go_ret
        exact ⟨by unfold or4; rw [if_neg (by simp [e0]), if_pos h]; rfl, rfl⟩
    | 2, _ =>
      have e0 := H.out.1 (by omega)
      have e1 := H.out.2.1 (by omega)
      by_cases h : c = 0
      · subst h
        go_wp2
        go_roundw
        case rel => exact ⟨3, rfl, by omega, Lib.hid ⟨fun _ => e0, fun _ => e1, by simp, by omega⟩, trivial⟩
        case measure => simp [intOf]
      · go_wp2
        go_ret
        exact ⟨by unfold or4; rw [if_neg (by simp [e0]), if_neg (by simp [e1]), if_pos h]; rfl, rfl⟩
    | 3, _ =>
      have e0 := H.out.1 (by omega)
      have e1 := H.out.2.1 (by omega)
      have e2 := H.out.2.2.1 (by omega)
      by_cases h : d = 0
      · subst h
        go_wp2
        go_roundw
        case rel => exact ⟨4, rfl, by omega, Lib.hid ⟨fun _ => e0, fun _ => e1, fun _ => e2, by simp⟩, trivial⟩
        case measure => simp [intOf]
      · go_wp2
        go_ret
        exact ⟨by unfold or4; rw [if_neg (by simp [e0]), if_neg (by simp [e1]), if_neg (by simp [e2])]; rfl, rfl⟩
    | 4, _ =>
      have e0 := H.out.1 (by omega)
      have e1 := H.out.2.1 (by omega)
      have e2 := H.out.2.2.1 (by omega)
      have e3 := H.out.2.2.2 (by omega)
      go_wp2
      go_ret
      exact ⟨by unfold or4; rw [if_neg (by simp [e0]), if_neg (by simp [e1]), if_neg (by simp [e2]), e3]; rfl, rfl⟩
end Go.Proofs.Ytmkgnkbcdkcboaa.QueueW
