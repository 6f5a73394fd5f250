/- A pile's methods, as a heap calls them: how they are found; Len, Less, Swap. -/
import Derived.Test.YtmkgnkbcdkcboaaPqC
namespace Go.Proofs.Ytmkgnkbcdkcboaa.QueueW
open Go.RowKit
theorem lenC_m (n : Nat) (a : Addr) (w : World) : Sem.run Try.prog (method (n + 1) 88 (.pointer (some a)) "Len") w = (do let v ← loadVar 80 a; pure (83, v) : Sem (FuncId × Value)).run Try.prog w := by kernel_rfl
theorem lessC_m (n : Nat) (a : Addr) (w : World) : Sem.run Try.prog (method (n + 1) 88 (.pointer (some a)) "Less") w = (do let v ← loadVar 80 a; pure (84, v) : Sem (FuncId × Value)).run Try.prog w := by kernel_rfl
theorem swapC_m (n : Nat) (a : Addr) (w : World) : Sem.run Try.prog (method (n + 1) 88 (.pointer (some a)) "Swap") w = (do let v ← loadVar 80 a; pure (85, v) : Sem (FuncId × Value)).run Try.prog w := by kernel_rfl
theorem pushC_m (n : Nat) (a : Addr) (w : World) : Sem.run Try.prog (method (n + 1) 88 (.pointer (some a)) "Push") w = .ok (91, .pointer (some a)) w := by kernel_rfl
theorem popC_m (n : Nat) (a : Addr) (w : World) : Sem.run Try.prog (method (n + 1) 88 (.pointer (some a)) "Pop") w = .ok (90, .pointer (some a)) w := by kernel_rfl
theorem loadC (k : Nat) (v : Value) (w : World) (h : w.cell? ⟨k, 2, none⟩ = some v) : Sem.run Try.prog (loadVar 80 ⟨k, 2, none⟩) w = .ok v w := by
  have g : Sem.run Try.prog (isAgg 80) w = .ok false w := by kernel_rfl
  simp [loadVar, g, h]
theorem lenC_f (n k : Nat) (v : Value) (w : World) (h : w.cell? ⟨k, 2, none⟩ = some v) : Sem.run Try.prog (method (n + 1) 88 (.pointer (some ⟨k, 2, none⟩)) "Len") w = .ok (83, v) w := by
  rw [lenC_m]; simp [loadC k v w h]
theorem lessC_f (n k : Nat) (v : Value) (w : World) (h : w.cell? ⟨k, 2, none⟩ = some v) : Sem.run Try.prog (method (n + 1) 88 (.pointer (some ⟨k, 2, none⟩)) "Less") w = .ok (84, v) w := by
  rw [lessC_m]; simp [loadC k v w h]
theorem swapC_f (n k : Nat) (v : Value) (w : World) (h : w.cell? ⟨k, 2, none⟩ = some v) : Sem.run Try.prog (method (n + 1) 88 (.pointer (some ⟨k, 2, none⟩)) "Swap") w = .ok (85, v) w := by
  rw [swapC_m]; simp [loadC k v w h]
theorem lenC_any (a : Option Addr) (n c : Nat) (w : World) : Calls Try.prog 83 #[.slice a n c] w fun e w' => e = .returned (.int .i64 (n : Nat)) ∧ w' = w := by
  go_enter Try.func83, Try.ntmps83
  go_wp2
  go_ret
  exact ⟨rfl, rfl⟩
set_option maxHeartbeats 4000000 in
set_option maxRecDepth 100000 in
theorem lessC_any (g c base i j : Nat) (L : List It) (w : World) (h : Row w 90 base (.slice (some ⟨g, 0, none⟩) L.length c) L) (hi : i < L.length) (hj : j < L.length) :
    Calls Try.prog 84 #[.slice (some ⟨g, 0, none⟩) L.length c, .int .i64 (i : Nat), .int .i64 (j : Nat)] w fun e w' => e = .returned (.bool (decide (lt (nth L i) (nth L j)))) ∧ Below w.heap.size w w' := by
  have a_ := Lib.hid (h.cells hi)
  have b_ := Lib.hid (h.cells hj)
  have i1 : (i : Int) < (L.length : Int) := by omega
  have j1 : (j : Int) < (L.length : Int) := by omega
  have HO := fun W => orderC_any (nth L i) (nth L j) W
  rw [← ord_lt]
  generalize ord (nth L i) (nth L j) = r at *
  generalize hx : nth L i = x at *
  generalize hy : nth L j = y at *
  generalize hn : L.length = n at *
  obtain ⟨x0, x1, x2, x3, x4, x5, x6, x7, x8⟩ := x
  obtain ⟨y0, y1, y2, y3, y4, y5, y6, y7, y8⟩ := y
  have H := Lib.hid HO
  dsimp only [It.thing] at a_ b_ H
  clear hi hj h HO hx hy hn
  go_enter Try.func84, Try.ntmps84
  go_wp2_with fail
  go_region_held3 (fun w' => (w'.cell? ⟨g, i * 9, none⟩ = some (.int .i64 x0) ∧ w'.cell? ⟨g, i * 9 + 1, none⟩ = some (.int .i64 x1) ∧ w'.cell? ⟨g, i * 9 + 2, none⟩ = some (.int .i64 x2) ∧ w'.cell? ⟨g, i * 9 + 3, none⟩ = some (.int .i64 x3) ∧ w'.cell? ⟨g, i * 9 + 4, none⟩ = some (.int .i64 x4) ∧ w'.cell? ⟨g, i * 9 + 5, none⟩ = some (.int .i64 x5) ∧ w'.cell? ⟨g, i * 9 + 6, none⟩ = some (.int .i64 x6) ∧ w'.cell? ⟨g, i * 9 + 7, none⟩ = some (.int .u32 x7) ∧ w'.cell? ⟨g, i * 9 + 8, none⟩ = some (.int .i64 x8)) ∧ (w'.cell? ⟨g, j * 9, none⟩ = some (.int .i64 y0) ∧ w'.cell? ⟨g, j * 9 + 1, none⟩ = some (.int .i64 y1) ∧ w'.cell? ⟨g, j * 9 + 2, none⟩ = some (.int .i64 y2) ∧ w'.cell? ⟨g, j * 9 + 3, none⟩ = some (.int .i64 y3) ∧ w'.cell? ⟨g, j * 9 + 4, none⟩ = some (.int .i64 y4) ∧ w'.cell? ⟨g, j * 9 + 5, none⟩ = some (.int .i64 y5) ∧ w'.cell? ⟨g, j * 9 + 6, none⟩ = some (.int .i64 y6) ∧ w'.cell? ⟨g, j * 9 + 7, none⟩ = some (.int .u32 y7) ∧ w'.cell? ⟨g, j * 9 + 8, none⟩ = some (.int .i64 y8))) (first | exact ⟨a_.out, b_.out⟩ | exact ⟨k_.out, l_.out⟩) (first
    | (go_at_call 86; (with_reducible refine (H.out _).mono ?_); rintro e w1 ⟨rfl, b1⟩; have k_ := Lib.hid (keep9 (w := w.drew) a_.out b1); have l_ := Lib.hid (keep9 (w := w.drew) b_.out b1)))
  go_wp2
  go_ret
  exact ⟨rfl, of_drew b1⟩
set_option maxHeartbeats 4000000 in
set_option maxRecDepth 100000 in
theorem swapC_same (g c base i : Nat) (L : List It) (w : World) (h : Row w 90 base (.slice (some ⟨g, 0, none⟩) L.length c) L) (hi : i < L.length) :
    Calls Try.prog 85 #[.slice (some ⟨g, 0, none⟩) L.length c, .int .i64 (i : Nat), .int .i64 (i : Nat)] w fun e w' => e = .returned (.tuple #[]) ∧ w' = ((w.setCells g (i * 9) (nth L i).cs).setCells g (i * 9) (nth L i).cs).drew := by
  have i1 : (i : Int) < (L.length : Int) := by omega
  obtain ⟨a0, a1, a2, a3, a4, a5, a6, a7, a8⟩ := h.cells hi
  generalize hx : nth L i = x at *
  generalize hn : L.length = n at *
  obtain ⟨x0, x1, x2, x3, x4, x5, x6, x7, x8⟩ := x
  dsimp only at a0 a1 a2 a3 a4 a5 a6 a7 a8
  obtain ⟨f0, f1, f2, f3, f4, f5, f6, f7, f8⟩ := Row.frozen9 h i
  clear hi h hx hn
  dsimp only [It.cs]
  go_enter Try.func85, Try.ntmps85
  go_wp2_with fail
  go_region
  go_end0
  exact ⟨rfl, rfl⟩
set_option maxHeartbeats 4000000 in
set_option maxRecDepth 100000 in
theorem swapC_ne (g c base i j : Nat) (L : List It) (w : World) (h : Row w 90 base (.slice (some ⟨g, 0, none⟩) L.length c) L) (hi : i < L.length) (hj : j < L.length) (hij : ¬ i = j) :
    Calls Try.prog 85 #[.slice (some ⟨g, 0, none⟩) L.length c, .int .i64 (i : Nat), .int .i64 (j : Nat)] w fun e w' => e = .returned (.tuple #[]) ∧ w' = ((w.setCells g (i * 9) (nth L j).cs).setCells g (j * 9) (nth L i).cs).drew := by
  have i1 : (i : Int) < (L.length : Int) := by omega
  have j1 : (j : Int) < (L.length : Int) := by omega
  obtain ⟨a0, a1, a2, a3, a4, a5, a6, a7, a8⟩ := h.cells hi
  obtain ⟨b0, b1, b2, b3, b4, b5, b6, b7, b8⟩ := h.cells hj
  generalize hx : nth L i = x at *
  generalize hy : nth L j = y at *
  generalize hn : L.length = n at *
  obtain ⟨x0, x1, x2, x3, x4, x5, x6, x7, x8⟩ := x
  obtain ⟨y0, y1, y2, y3, y4, y5, y6, y7, y8⟩ := y
  dsimp only at a0 a1 a2 a3 a4 a5 a6 a7 a8 b0 b1 b2 b3 b4 b5 b6 b7 b8
  obtain ⟨f0, f1, f2, f3, f4, f5, f6, f7, f8⟩ := Row.frozen9 h i
  obtain ⟨k0, k1, k2, k3, k4, k5, k6, k7, k8⟩ := Row.frozen9 h j
  clear hi hj h hx hy hn
  dsimp only [It.cs]
  have hji : ¬ j = i := fun e => hij e.symm
  go_enter Try.func85, Try.ntmps85
  go_wp2_with fail
  go_region
  go_end0
  exact ⟨rfl, rfl⟩
theorem swapC_any (g c base i j : Nat) (L : List It) (w : World) (h : Row w 90 base (.slice (some ⟨g, 0, none⟩) L.length c) L) (hi : i < L.length) (hj : j < L.length) :
    Calls Try.prog 85 #[.slice (some ⟨g, 0, none⟩) L.length c, .int .i64 (i : Nat), .int .i64 (j : Nat)] w fun e w' => e = .returned (.tuple #[]) ∧ Row w' 90 base (.slice (some ⟨g, 0, none⟩) L.length c) (swp L i j) ∧ Chg (fun k => k = g) w w' := by
  have fin := Row.swp h hi hj
  have fin : ∀ w', w' = ((w.setCells g (i * 9) (nth L j).cs).setCells g (j * 9) (nth L i).cs).drew → Row w' 90 base (.slice (some ⟨g, 0, none⟩) L.length c) (swp L i j) ∧ Chg (fun k => k = g) w w' := fun w' e => e ▸ fin
  by_cases hij : i = j
  · subst hij
    refine (swapC_same g c base i L w h hi).mono ?_
    rintro e w' ⟨rfl, h2⟩
    exact ⟨rfl, fin w' h2⟩
  · refine (swapC_ne g c base i j L w h hi hj hij).mono ?_
    rintro e w' ⟨rfl, h2⟩
    exact ⟨rfl, fin w' h2⟩
end Go.Proofs.Ytmkgnkbcdkcboaa.QueueW
