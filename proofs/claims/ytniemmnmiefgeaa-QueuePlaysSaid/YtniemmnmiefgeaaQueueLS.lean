/- A pile's methods, as a heap calls them: how they are found; Len, Less, Swap. -/
import Derived.Test.YtniemmnmiefgeaaQueueC
namespace Go.Proofs.Ytniemmnmiefgeaa.QueueW
open Go.RowKit
theorem lenS_m (n : Nat) (a : Addr) (w : World) : Sem.run Try.prog (method (n + 1) 78 (.pointer (some a)) "Len") w = (do let v ← loadVar 75 a; pure (86, v) : Sem (FuncId × Value)).run Try.prog w := by kernel_rfl
theorem lessS_m (n : Nat) (a : Addr) (w : World) : Sem.run Try.prog (method (n + 1) 78 (.pointer (some a)) "Less") w = (do let v ← loadVar 75 a; pure (87, v) : Sem (FuncId × Value)).run Try.prog w := by kernel_rfl
theorem swapS_m (n : Nat) (a : Addr) (w : World) : Sem.run Try.prog (method (n + 1) 78 (.pointer (some a)) "Swap") w = (do let v ← loadVar 75 a; pure (88, v) : Sem (FuncId × Value)).run Try.prog w := by kernel_rfl
theorem pushS_m (n : Nat) (a : Addr) (w : World) : Sem.run Try.prog (method (n + 1) 78 (.pointer (some a)) "Push") w = .ok (91, .pointer (some a)) w := by kernel_rfl
theorem popS_m (n : Nat) (a : Addr) (w : World) : Sem.run Try.prog (method (n + 1) 78 (.pointer (some a)) "Pop") w = .ok (90, .pointer (some a)) w := by kernel_rfl
theorem loadS (k : Nat) (v : Value) (w : World) (h : w.cell? ⟨k, 2, none⟩ = some v) : Sem.run Try.prog (loadVar 75 ⟨k, 2, none⟩) w = .ok v w := by
  have g : Sem.run Try.prog (isAgg 75) w = .ok false w := by kernel_rfl
  simp [loadVar, g, h]
theorem lenS_f (n k : Nat) (v : Value) (w : World) (h : w.cell? ⟨k, 2, none⟩ = some v) : Sem.run Try.prog (method (n + 1) 78 (.pointer (some ⟨k, 2, none⟩)) "Len") w = .ok (86, v) w := by
  rw [lenS_m]; simp [loadS k v w h]
theorem lessS_f (n k : Nat) (v : Value) (w : World) (h : w.cell? ⟨k, 2, none⟩ = some v) : Sem.run Try.prog (method (n + 1) 78 (.pointer (some ⟨k, 2, none⟩)) "Less") w = .ok (87, v) w := by
  rw [lessS_m]; simp [loadS k v w h]
theorem swapS_f (n k : Nat) (v : Value) (w : World) (h : w.cell? ⟨k, 2, none⟩ = some v) : Sem.run Try.prog (method (n + 1) 78 (.pointer (some ⟨k, 2, none⟩)) "Swap") w = .ok (88, v) w := by
  rw [swapS_m]; simp [loadS k v w h]
theorem lenS_any (a : Option Addr) (n c : Nat) (w : World) : Calls Try.prog 86 #[.slice a n c] w fun e w' => e = .returned (.int .i64 (n : Nat)) ∧ w' = w := by
  go_enter Try.func86, Try.ntmps86
  go_wp2
  go_ret
  exact ⟨rfl, rfl⟩
set_option maxHeartbeats 4000000 in
set_option maxRecDepth 100000 in
theorem lessS_any (g c base i j : Nat) (L : List It) (w : World) (h : Row w 80 base (.slice (some ⟨g, 0, none⟩) L.length c) L) (hi : i < L.length) (hj : j < L.length) :
    Calls Try.prog 87 #[.slice (some ⟨g, 0, none⟩) L.length c, .int .i64 (i : Nat), .int .i64 (j : Nat)] w fun e w' => e = .returned (.bool (decide (lt (nth L i) (nth L j)))) ∧ Below w.heap.size w w' := by
  have a_ := Lib.hid (h.cells hi)
  have b_ := Lib.hid (h.cells hj)
  have i1 : (i : Int) < (L.length : Int) := by omega
  have j1 : (j : Int) < (L.length : Int) := by omega
  have HO := fun W => orderS_any (nth L i) (nth L j) W
  rw [← ord_lt]
  generalize ord (nth L i) (nth L j) = r at *
  generalize hx : nth L i = x at *
  generalize hy : nth L j = y at *
  generalize hn : L.length = n at *
  obtain ⟨x0, x1, x2, x3, x4, x5⟩ := x
  obtain ⟨y0, y1, y2, y3, y4, y5⟩ := y
  have H := Lib.hid HO
  dsimp only at a_ b_ H
  clear hi hj h HO hx hy hn
  go_enter Try.func87, Try.ntmps87
  go_wp2_with fail
  go_region_held3 (fun w' => (w'.cell? ⟨g, i * 5, none⟩ = some (.int .i64 x0) ∧ w'.cell? ⟨g, i * 5 + 1, none⟩ = some (.int .i64 x1) ∧ w'.cell? ⟨g, i * 5 + 2, none⟩ = some (.int .i64 x2) ∧ w'.cell? ⟨g, i * 5 + 3, none⟩ = some (.int .i64 x3) ∧ w'.cell? ⟨g, i * 5 + 4, none⟩ = some x4) ∧ (w'.cell? ⟨g, j * 5, none⟩ = some (.int .i64 y0) ∧ w'.cell? ⟨g, j * 5 + 1, none⟩ = some (.int .i64 y1) ∧ w'.cell? ⟨g, j * 5 + 2, none⟩ = some (.int .i64 y2) ∧ w'.cell? ⟨g, j * 5 + 3, none⟩ = some (.int .i64 y3) ∧ w'.cell? ⟨g, j * 5 + 4, none⟩ = some y4)) (first | exact ⟨a_.out, b_.out⟩ | exact ⟨k_.out, l_.out⟩) (first
    | (go_at_call 89; (with_reducible refine (H.out _).mono ?_); rintro e w1 ⟨rfl, b1⟩; have k_ := Lib.hid (keep5 (w := w.drew) a_.out b1); have l_ := Lib.hid (keep5 (w := w.drew) b_.out b1)))
  go_wp2
  go_ret
  exact ⟨rfl, of_drew b1⟩
set_option maxHeartbeats 4000000 in
set_option maxRecDepth 100000 in
theorem swapS_same (g c base i : Nat) (L : List It) (w : World) (h : Row w 80 base (.slice (some ⟨g, 0, none⟩) L.length c) L) (hi : i < L.length) :
    Calls Try.prog 88 #[.slice (some ⟨g, 0, none⟩) L.length c, .int .i64 (i : Nat), .int .i64 (i : Nat)] w fun e w' => e = .returned (.tuple #[]) ∧ w' = ((w.setCells g (i * 5) (nth L i).cs).setCells g (i * 5) (nth L i).cs).drew := by
  have i1 : (i : Int) < (L.length : Int) := by omega
  obtain ⟨a0, a1, a2, a3, a4⟩ := h.cells hi
  generalize hx : nth L i = x at *
  generalize hn : L.length = n at *
  obtain ⟨x0, x1, x2, x3, x4, x5⟩ := x
  have sx : ∀ (W : World) (a : Addr) (m : Mode), Sem.run Try.prog (store a x4 m) W = stored Try.prog W a x4 m := fun W a m => run_store _ W a _ m x5
  dsimp only at a0 a1 a2 a3 a4
  obtain ⟨f0, f1, f2, f3, f4⟩ := Row.frozen5 h i
  clear hi h hx hn
  dsimp only [It.cs]
  clear x5
  go_enter Try.func88, Try.ntmps88
  go_wp2_with fail
  go_region
  go_end0
  exact ⟨rfl, rfl⟩
set_option maxHeartbeats 4000000 in
set_option maxRecDepth 100000 in
theorem swapS_ne (g c base i j : Nat) (L : List It) (w : World) (h : Row w 80 base (.slice (some ⟨g, 0, none⟩) L.length c) L) (hi : i < L.length) (hj : j < L.length) (hij : ¬ i = j) :
    Calls Try.prog 88 #[.slice (some ⟨g, 0, none⟩) L.length c, .int .i64 (i : Nat), .int .i64 (j : Nat)] w fun e w' => e = .returned (.tuple #[]) ∧ w' = ((w.setCells g (i * 5) (nth L j).cs).setCells g (j * 5) (nth L i).cs).drew := by
  have i1 : (i : Int) < (L.length : Int) := by omega
  have j1 : (j : Int) < (L.length : Int) := by omega
  obtain ⟨a0, a1, a2, a3, a4⟩ := h.cells hi
  obtain ⟨b0, b1, b2, b3, b4⟩ := h.cells hj
  generalize hx : nth L i = x at *
  generalize hy : nth L j = y at *
  generalize hn : L.length = n at *
  obtain ⟨x0, x1, x2, x3, x4, x5⟩ := x
  obtain ⟨y0, y1, y2, y3, y4, y5⟩ := y
  have sx : ∀ (W : World) (a : Addr) (m : Mode), Sem.run Try.prog (store a x4 m) W = stored Try.prog W a x4 m := fun W a m => run_store _ W a _ m x5
  have sy : ∀ (W : World) (a : Addr) (m : Mode), Sem.run Try.prog (store a y4 m) W = stored Try.prog W a y4 m := fun W a m => run_store _ W a _ m y5
  dsimp only at a0 a1 a2 a3 a4 b0 b1 b2 b3 b4
  obtain ⟨f0, f1, f2, f3, f4⟩ := Row.frozen5 h i
  obtain ⟨k0, k1, k2, k3, k4⟩ := Row.frozen5 h j
  clear hi hj h hx hy hn
  dsimp only [It.cs]
  clear x5 y5
  have hji : ¬ j = i := fun e => hij e.symm
  go_enter Try.func88, Try.ntmps88
  go_wp2_with fail
  go_region
  go_end0
  exact ⟨rfl, rfl⟩
theorem swapS_any (g c base i j : Nat) (L : List It) (w : World) (h : Row w 80 base (.slice (some ⟨g, 0, none⟩) L.length c) L) (hi : i < L.length) (hj : j < L.length) :
    Calls Try.prog 88 #[.slice (some ⟨g, 0, none⟩) L.length c, .int .i64 (i : Nat), .int .i64 (j : Nat)] w fun e w' => e = .returned (.tuple #[]) ∧ Row w' 80 base (.slice (some ⟨g, 0, none⟩) L.length c) (swp L i j) ∧ Chg (fun k => k = g) w w' := by
  have fin := Row.swp h hi hj
  have fin : ∀ w', w' = ((w.setCells g (i * 5) (nth L j).cs).setCells g (j * 5) (nth L i).cs).drew → Row w' 80 base (.slice (some ⟨g, 0, none⟩) L.length c) (swp L i j) ∧ Chg (fun k => k = g) w w' := fun w' e => e ▸ fin
  by_cases hij : i = j
  · subst hij
    refine (swapS_same g c base i L w h hi).mono ?_
    rintro e w' ⟨rfl, h2⟩
    exact ⟨rfl, fin w' h2⟩
  · refine (swapS_ne g c base i j L w h hi hj hij).mono ?_
    rintro e w' ⟨rfl, h2⟩
    exact ⟨rfl, fin w' h2⟩
end Go.Proofs.Ytniemmnmiefgeaa.QueueW
