/- A collection in memory; package comp's small functions; a collection and one frame more. -/
import Derived.Test.YtpjaijibkjmgiaaCompP
import Derived.Test.YtpjaijibkjmgiaaCrewC
import Derived.Test.YtpjaijibkjmgiaaFrameEq
import Derived.Test.YtpjaijibkjmgiaaSmall
namespace Go.Proofs.Ytpjaijibkjmgiaa.CompW
open Go.RowKit Shell
open CrewW (only has of has_any of_any mem)
open FrameW (CV rightC control_ok control_bad)
def okL (t : Int) : Bool := decide (-1125899906842624 ≤ t) && decide (t ≤ 1125899906842624)
theorem okL_iff {t : Int} : okL t = true ↔ -1125899906842624 ≤ t ∧ t ≤ 1125899906842624 := by unfold okL; simp
def okH (k f y c l : Int) : Bool := decide (rightC k f y c l) && decide (k = 1) && decide (f < 6)
theorem okH_iff {k f y c l : Int} : okH k f y c l = true ↔ rightC k f y c l ∧ k = 1 ∧ f < 6 := by unfold okH; simp [and_assoc]
def okW (d : Int) : Bool := decide (0 ≤ d) && decide (d ≤ 1048576)
theorem okW_iff {d : Int} : okW d = true ↔ 0 ≤ d ∧ d ≤ 1048576 := by unfold okW; simp
/-- A collection by value: its first, its senders, its readings and its cycles by host. -/
abbrev GV (b : Int) (s : Nat) (R C : Nat → Int) : Value := .agg #[.int .i64 b, .int .u32 (s : Int), .int .i64 (R 0), .int .i64 (R 1), .int .i64 (R 2), .int .i64 (R 3), .int .i64 (R 4), .int .i64 (R 5), .int .i64 (C 0), .int .i64 (C 1), .int .i64 (C 2), .int .i64 (C 3), .int .i64 (C 4), .int .i64 (C 5)]
abbrev gbx (b : Int) (s : Nat) (R C : Nat → Int) : Obj := .cells #[.int .i64 b, .int .u32 (s : Int), .int .i64 (R 0), .int .i64 (R 1), .int .i64 (R 2), .int .i64 (R 3), .int .i64 (R 4), .int .i64 (R 5), .int .i64 (C 0), .int .i64 (C 1), .int .i64 (C 2), .int .i64 (C 3), .int .i64 (C 4), .int .i64 (C 5)] 62 (0, 0)
abbrev pbx (d b : Int) (s : Nat) (R C : Nat → Int) : Obj := .cells #[.int .i64 d, .int .i64 b, .int .u32 (s : Int), .int .i64 (R 0), .int .i64 (R 1), .int .i64 (R 2), .int .i64 (R 3), .int .i64 (R 4), .int .i64 (R 5), .int .i64 (C 0), .int .i64 (C 1), .int .i64 (C 2), .int .i64 (C 3), .int .i64 (C 4), .int .i64 (C 5)] 64 (0, 0)
abbrev gz : Obj := .cells #[.int .i64 0, .int .u32 0, .int .i64 0, .int .i64 0, .int .i64 0, .int .i64 0, .int .i64 0, .int .i64 0, .int .i64 0, .int .i64 0, .int .i64 0, .int .i64 0, .int .i64 0, .int .i64 0] 62 (0, 0)
abbrev cb (k f y c l : Int) : Obj := .cells #[.int .i64 k, .int .i64 f, .int .i64 y, .int .u32 c, .int .i64 l] 31 (0, 0)
theorem cells14 {w : World} {j : Nat} {v0 v1 v2 v3 v4 v5 v6 v7 v8 v9 v10 v11 v12 v13 : Value} {t : TypeId} (h : w.heap[j]? = some (.cells #[v0, v1, v2, v3, v4, v5, v6, v7, v8, v9, v10, v11, v12, v13] t (0, 0))) : w.cell? ⟨j, 0, none⟩ = some v0 ∧ w.cell? ⟨j, 1, none⟩ = some v1 ∧ w.cell? ⟨j, 2, none⟩ = some v2 ∧ w.cell? ⟨j, 3, none⟩ = some v3 ∧ w.cell? ⟨j, 4, none⟩ = some v4 ∧ w.cell? ⟨j, 5, none⟩ = some v5 ∧ w.cell? ⟨j, 6, none⟩ = some v6 ∧ w.cell? ⟨j, 7, none⟩ = some v7 ∧ w.cell? ⟨j, 8, none⟩ = some v8 ∧ w.cell? ⟨j, 9, none⟩ = some v9 ∧ w.cell? ⟨j, 10, none⟩ = some v10 ∧ w.cell? ⟨j, 11, none⟩ = some v11 ∧ w.cell? ⟨j, 12, none⟩ = some v12 ∧ w.cell? ⟨j, 13, none⟩ = some v13 :=
  ⟨cell_of_row w j 0 _ _ _ h, cell_of_row w j 1 _ _ _ h, cell_of_row w j 2 _ _ _ h, cell_of_row w j 3 _ _ _ h, cell_of_row w j 4 _ _ _ h, cell_of_row w j 5 _ _ _ h, cell_of_row w j 6 _ _ _ h, cell_of_row w j 7 _ _ _ h, cell_of_row w j 8 _ _ _ h, cell_of_row w j 9 _ _ _ h, cell_of_row w j 10 _ _ _ h, cell_of_row w j 11 _ _ _ h, cell_of_row w j 12 _ _ _ h, cell_of_row w j 13 _ _ _ h⟩
theorem frozen14 {w : World} {j : Nat} {v0 v1 v2 v3 v4 v5 v6 v7 v8 v9 v10 v11 v12 v13 : Value} {t : TypeId} (h : w.heap[j]? = some (.cells #[v0, v1, v2, v3, v4, v5, v6, v7, v8, v9, v10, v11, v12, v13] t (0, 0))) : w.frozen? ⟨j, 0, none⟩ = false ∧ w.frozen? ⟨j, 1, none⟩ = false ∧ w.frozen? ⟨j, 2, none⟩ = false ∧ w.frozen? ⟨j, 3, none⟩ = false ∧ w.frozen? ⟨j, 4, none⟩ = false ∧ w.frozen? ⟨j, 5, none⟩ = false ∧ w.frozen? ⟨j, 6, none⟩ = false ∧ w.frozen? ⟨j, 7, none⟩ = false ∧ w.frozen? ⟨j, 8, none⟩ = false ∧ w.frozen? ⟨j, 9, none⟩ = false ∧ w.frozen? ⟨j, 10, none⟩ = false ∧ w.frozen? ⟨j, 11, none⟩ = false ∧ w.frozen? ⟨j, 12, none⟩ = false ∧ w.frozen? ⟨j, 13, none⟩ = false :=
  ⟨frozen_of_row w j 0 _ _ h, frozen_of_row w j 1 _ _ h, frozen_of_row w j 2 _ _ h, frozen_of_row w j 3 _ _ h, frozen_of_row w j 4 _ _ h, frozen_of_row w j 5 _ _ h, frozen_of_row w j 6 _ _ h, frozen_of_row w j 7 _ _ h, frozen_of_row w j 8 _ _ h, frozen_of_row w j 9 _ _ h, frozen_of_row w j 10 _ _ h, frozen_of_row w j 11 _ _ h, frozen_of_row w j 12 _ _ h, frozen_of_row w j 13 _ _ h⟩
theorem cells15 {w : World} {j : Nat} {v0 v1 v2 v3 v4 v5 v6 v7 v8 v9 v10 v11 v12 v13 v14 : Value} {t : TypeId} (h : w.heap[j]? = some (.cells #[v0, v1, v2, v3, v4, v5, v6, v7, v8, v9, v10, v11, v12, v13, v14] t (0, 0))) : w.cell? ⟨j, 0, none⟩ = some v0 ∧ w.cell? ⟨j, 1, none⟩ = some v1 ∧ w.cell? ⟨j, 2, none⟩ = some v2 ∧ w.cell? ⟨j, 3, none⟩ = some v3 ∧ w.cell? ⟨j, 4, none⟩ = some v4 ∧ w.cell? ⟨j, 5, none⟩ = some v5 ∧ w.cell? ⟨j, 6, none⟩ = some v6 ∧ w.cell? ⟨j, 7, none⟩ = some v7 ∧ w.cell? ⟨j, 8, none⟩ = some v8 ∧ w.cell? ⟨j, 9, none⟩ = some v9 ∧ w.cell? ⟨j, 10, none⟩ = some v10 ∧ w.cell? ⟨j, 11, none⟩ = some v11 ∧ w.cell? ⟨j, 12, none⟩ = some v12 ∧ w.cell? ⟨j, 13, none⟩ = some v13 ∧ w.cell? ⟨j, 14, none⟩ = some v14 :=
  ⟨cell_of_row w j 0 _ _ _ h, cell_of_row w j 1 _ _ _ h, cell_of_row w j 2 _ _ _ h, cell_of_row w j 3 _ _ _ h, cell_of_row w j 4 _ _ _ h, cell_of_row w j 5 _ _ _ h, cell_of_row w j 6 _ _ _ h, cell_of_row w j 7 _ _ _ h, cell_of_row w j 8 _ _ _ h, cell_of_row w j 9 _ _ _ h, cell_of_row w j 10 _ _ _ h, cell_of_row w j 11 _ _ _ h, cell_of_row w j 12 _ _ _ h, cell_of_row w j 13 _ _ _ h, cell_of_row w j 14 _ _ _ h⟩
theorem frozen15 {w : World} {j : Nat} {v0 v1 v2 v3 v4 v5 v6 v7 v8 v9 v10 v11 v12 v13 v14 : Value} {t : TypeId} (h : w.heap[j]? = some (.cells #[v0, v1, v2, v3, v4, v5, v6, v7, v8, v9, v10, v11, v12, v13, v14] t (0, 0))) : w.frozen? ⟨j, 0, none⟩ = false ∧ w.frozen? ⟨j, 1, none⟩ = false ∧ w.frozen? ⟨j, 2, none⟩ = false ∧ w.frozen? ⟨j, 3, none⟩ = false ∧ w.frozen? ⟨j, 4, none⟩ = false ∧ w.frozen? ⟨j, 5, none⟩ = false ∧ w.frozen? ⟨j, 6, none⟩ = false ∧ w.frozen? ⟨j, 7, none⟩ = false ∧ w.frozen? ⟨j, 8, none⟩ = false ∧ w.frozen? ⟨j, 9, none⟩ = false ∧ w.frozen? ⟨j, 10, none⟩ = false ∧ w.frozen? ⟨j, 11, none⟩ = false ∧ w.frozen? ⟨j, 12, none⟩ = false ∧ w.frozen? ⟨j, 13, none⟩ = false ∧ w.frozen? ⟨j, 14, none⟩ = false :=
  ⟨frozen_of_row w j 0 _ _ h, frozen_of_row w j 1 _ _ h, frozen_of_row w j 2 _ _ h, frozen_of_row w j 3 _ _ h, frozen_of_row w j 4 _ _ h, frozen_of_row w j 5 _ _ h, frozen_of_row w j 6 _ _ h, frozen_of_row w j 7 _ _ h, frozen_of_row w j 8 _ _ h, frozen_of_row w j 9 _ _ h, frozen_of_row w j 10 _ _ h, frozen_of_row w j 11 _ _ h, frozen_of_row w j 12 _ _ h, frozen_of_row w j 13 _ _ h, frozen_of_row w j 14 _ _ h⟩
theorem put14 {w : World} {g : Nat} {v0 v1 v2 v3 v4 v5 v6 v7 v8 v9 v10 v11 v12 v13 v14 : Value} {t : TypeId} (h : w.heap[g]? = some (.cells #[v0, v1, v2, v3, v4, v5, v6, v7, v8, v9, v10, v11, v12, v13, v14] t (0, 0))) (u1 u2 u3 u4 u5 u6 u7 u8 u9 u10 u11 u12 u13 u14 : Value) : ((((((((((((((w.setCell ⟨g, 1, none⟩ u1).setCell ⟨g, 2, none⟩ u2).setCell ⟨g, 3, none⟩ u3).setCell ⟨g, 4, none⟩ u4).setCell ⟨g, 5, none⟩ u5).setCell ⟨g, 6, none⟩ u6).setCell ⟨g, 7, none⟩ u7).setCell ⟨g, 8, none⟩ u8).setCell ⟨g, 9, none⟩ u9).setCell ⟨g, 10, none⟩ u10).setCell ⟨g, 11, none⟩ u11).setCell ⟨g, 12, none⟩ u12).setCell ⟨g, 13, none⟩ u13).setCell ⟨g, 14, none⟩ u14).heap[g]? = some (.cells #[v0, u1, u2, u3, u4, u5, u6, u7, u8, u9, u10, u11, u12, u13, u14] t (0, 0)) := by
  have h := heap_setCell_same w g 1 _ _ u1 h
  replace h : (w.setCell ⟨g, 1, none⟩ u1).heap[g]? = some (.cells #[v0, u1, v2, v3, v4, v5, v6, v7, v8, v9, v10, v11, v12, v13, v14] t (0, 0)) := h
  have h := heap_setCell_same (w.setCell ⟨g, 1, none⟩ u1) g 2 _ _ u2 h
  replace h : ((w.setCell ⟨g, 1, none⟩ u1).setCell ⟨g, 2, none⟩ u2).heap[g]? = some (.cells #[v0, u1, u2, v3, v4, v5, v6, v7, v8, v9, v10, v11, v12, v13, v14] t (0, 0)) := h
  have h := heap_setCell_same ((w.setCell ⟨g, 1, none⟩ u1).setCell ⟨g, 2, none⟩ u2) g 3 _ _ u3 h
  replace h : (((w.setCell ⟨g, 1, none⟩ u1).setCell ⟨g, 2, none⟩ u2).setCell ⟨g, 3, none⟩ u3).heap[g]? = some (.cells #[v0, u1, u2, u3, v4, v5, v6, v7, v8, v9, v10, v11, v12, v13, v14] t (0, 0)) := h
  have h := heap_setCell_same (((w.setCell ⟨g, 1, none⟩ u1).setCell ⟨g, 2, none⟩ u2).setCell ⟨g, 3, none⟩ u3) g 4 _ _ u4 h
  replace h : ((((w.setCell ⟨g, 1, none⟩ u1).setCell ⟨g, 2, none⟩ u2).setCell ⟨g, 3, none⟩ u3).setCell ⟨g, 4, none⟩ u4).heap[g]? = some (.cells #[v0, u1, u2, u3, u4, v5, v6, v7, v8, v9, v10, v11, v12, v13, v14] t (0, 0)) := h
  have h := heap_setCell_same ((((w.setCell ⟨g, 1, none⟩ u1).setCell ⟨g, 2, none⟩ u2).setCell ⟨g, 3, none⟩ u3).setCell ⟨g, 4, none⟩ u4) g 5 _ _ u5 h
  replace h : (((((w.setCell ⟨g, 1, none⟩ u1).setCell ⟨g, 2, none⟩ u2).setCell ⟨g, 3, none⟩ u3).setCell ⟨g, 4, none⟩ u4).setCell ⟨g, 5, none⟩ u5).heap[g]? = some (.cells #[v0, u1, u2, u3, u4, u5, v6, v7, v8, v9, v10, v11, v12, v13, v14] t (0, 0)) := h
  have h := heap_setCell_same (((((w.setCell ⟨g, 1, none⟩ u1).setCell ⟨g, 2, none⟩ u2).setCell ⟨g, 3, none⟩ u3).setCell ⟨g, 4, none⟩ u4).setCell ⟨g, 5, none⟩ u5) g 6 _ _ u6 h
  replace h : ((((((w.setCell ⟨g, 1, none⟩ u1).setCell ⟨g, 2, none⟩ u2).setCell ⟨g, 3, none⟩ u3).setCell ⟨g, 4, none⟩ u4).setCell ⟨g, 5, none⟩ u5).setCell ⟨g, 6, none⟩ u6).heap[g]? = some (.cells #[v0, u1, u2, u3, u4, u5, u6, v7, v8, v9, v10, v11, v12, v13, v14] t (0, 0)) := h
  have h := heap_setCell_same ((((((w.setCell ⟨g, 1, none⟩ u1).setCell ⟨g, 2, none⟩ u2).setCell ⟨g, 3, none⟩ u3).setCell ⟨g, 4, none⟩ u4).setCell ⟨g, 5, none⟩ u5).setCell ⟨g, 6, none⟩ u6) g 7 _ _ u7 h
  replace h : (((((((w.setCell ⟨g, 1, none⟩ u1).setCell ⟨g, 2, none⟩ u2).setCell ⟨g, 3, none⟩ u3).setCell ⟨g, 4, none⟩ u4).setCell ⟨g, 5, none⟩ u5).setCell ⟨g, 6, none⟩ u6).setCell ⟨g, 7, none⟩ u7).heap[g]? = some (.cells #[v0, u1, u2, u3, u4, u5, u6, u7, v8, v9, v10, v11, v12, v13, v14] t (0, 0)) := h
  have h := heap_setCell_same (((((((w.setCell ⟨g, 1, none⟩ u1).setCell ⟨g, 2, none⟩ u2).setCell ⟨g, 3, none⟩ u3).setCell ⟨g, 4, none⟩ u4).setCell ⟨g, 5, none⟩ u5).setCell ⟨g, 6, none⟩ u6).setCell ⟨g, 7, none⟩ u7) g 8 _ _ u8 h
  replace h : ((((((((w.setCell ⟨g, 1, none⟩ u1).setCell ⟨g, 2, none⟩ u2).setCell ⟨g, 3, none⟩ u3).setCell ⟨g, 4, none⟩ u4).setCell ⟨g, 5, none⟩ u5).setCell ⟨g, 6, none⟩ u6).setCell ⟨g, 7, none⟩ u7).setCell ⟨g, 8, none⟩ u8).heap[g]? = some (.cells #[v0, u1, u2, u3, u4, u5, u6, u7, u8, v9, v10, v11, v12, v13, v14] t (0, 0)) := h
  have h := heap_setCell_same ((((((((w.setCell ⟨g, 1, none⟩ u1).setCell ⟨g, 2, none⟩ u2).setCell ⟨g, 3, none⟩ u3).setCell ⟨g, 4, none⟩ u4).setCell ⟨g, 5, none⟩ u5).setCell ⟨g, 6, none⟩ u6).setCell ⟨g, 7, none⟩ u7).setCell ⟨g, 8, none⟩ u8) g 9 _ _ u9 h
  replace h : (((((((((w.setCell ⟨g, 1, none⟩ u1).setCell ⟨g, 2, none⟩ u2).setCell ⟨g, 3, none⟩ u3).setCell ⟨g, 4, none⟩ u4).setCell ⟨g, 5, none⟩ u5).setCell ⟨g, 6, none⟩ u6).setCell ⟨g, 7, none⟩ u7).setCell ⟨g, 8, none⟩ u8).setCell ⟨g, 9, none⟩ u9).heap[g]? = some (.cells #[v0, u1, u2, u3, u4, u5, u6, u7, u8, u9, v10, v11, v12, v13, v14] t (0, 0)) := h
  have h := heap_setCell_same (((((((((w.setCell ⟨g, 1, none⟩ u1).setCell ⟨g, 2, none⟩ u2).setCell ⟨g, 3, none⟩ u3).setCell ⟨g, 4, none⟩ u4).setCell ⟨g, 5, none⟩ u5).setCell ⟨g, 6, none⟩ u6).setCell ⟨g, 7, none⟩ u7).setCell ⟨g, 8, none⟩ u8).setCell ⟨g, 9, none⟩ u9) g 10 _ _ u10 h
  replace h : ((((((((((w.setCell ⟨g, 1, none⟩ u1).setCell ⟨g, 2, none⟩ u2).setCell ⟨g, 3, none⟩ u3).setCell ⟨g, 4, none⟩ u4).setCell ⟨g, 5, none⟩ u5).setCell ⟨g, 6, none⟩ u6).setCell ⟨g, 7, none⟩ u7).setCell ⟨g, 8, none⟩ u8).setCell ⟨g, 9, none⟩ u9).setCell ⟨g, 10, none⟩ u10).heap[g]? = some (.cells #[v0, u1, u2, u3, u4, u5, u6, u7, u8, u9, u10, v11, v12, v13, v14] t (0, 0)) := h
  have h := heap_setCell_same ((((((((((w.setCell ⟨g, 1, none⟩ u1).setCell ⟨g, 2, none⟩ u2).setCell ⟨g, 3, none⟩ u3).setCell ⟨g, 4, none⟩ u4).setCell ⟨g, 5, none⟩ u5).setCell ⟨g, 6, none⟩ u6).setCell ⟨g, 7, none⟩ u7).setCell ⟨g, 8, none⟩ u8).setCell ⟨g, 9, none⟩ u9).setCell ⟨g, 10, none⟩ u10) g 11 _ _ u11 h
  replace h : (((((((((((w.setCell ⟨g, 1, none⟩ u1).setCell ⟨g, 2, none⟩ u2).setCell ⟨g, 3, none⟩ u3).setCell ⟨g, 4, none⟩ u4).setCell ⟨g, 5, none⟩ u5).setCell ⟨g, 6, none⟩ u6).setCell ⟨g, 7, none⟩ u7).setCell ⟨g, 8, none⟩ u8).setCell ⟨g, 9, none⟩ u9).setCell ⟨g, 10, none⟩ u10).setCell ⟨g, 11, none⟩ u11).heap[g]? = some (.cells #[v0, u1, u2, u3, u4, u5, u6, u7, u8, u9, u10, u11, v12, v13, v14] t (0, 0)) := h
  have h := heap_setCell_same (((((((((((w.setCell ⟨g, 1, none⟩ u1).setCell ⟨g, 2, none⟩ u2).setCell ⟨g, 3, none⟩ u3).setCell ⟨g, 4, none⟩ u4).setCell ⟨g, 5, none⟩ u5).setCell ⟨g, 6, none⟩ u6).setCell ⟨g, 7, none⟩ u7).setCell ⟨g, 8, none⟩ u8).setCell ⟨g, 9, none⟩ u9).setCell ⟨g, 10, none⟩ u10).setCell ⟨g, 11, none⟩ u11) g 12 _ _ u12 h
  replace h : ((((((((((((w.setCell ⟨g, 1, none⟩ u1).setCell ⟨g, 2, none⟩ u2).setCell ⟨g, 3, none⟩ u3).setCell ⟨g, 4, none⟩ u4).setCell ⟨g, 5, none⟩ u5).setCell ⟨g, 6, none⟩ u6).setCell ⟨g, 7, none⟩ u7).setCell ⟨g, 8, none⟩ u8).setCell ⟨g, 9, none⟩ u9).setCell ⟨g, 10, none⟩ u10).setCell ⟨g, 11, none⟩ u11).setCell ⟨g, 12, none⟩ u12).heap[g]? = some (.cells #[v0, u1, u2, u3, u4, u5, u6, u7, u8, u9, u10, u11, u12, v13, v14] t (0, 0)) := h
  have h := heap_setCell_same ((((((((((((w.setCell ⟨g, 1, none⟩ u1).setCell ⟨g, 2, none⟩ u2).setCell ⟨g, 3, none⟩ u3).setCell ⟨g, 4, none⟩ u4).setCell ⟨g, 5, none⟩ u5).setCell ⟨g, 6, none⟩ u6).setCell ⟨g, 7, none⟩ u7).setCell ⟨g, 8, none⟩ u8).setCell ⟨g, 9, none⟩ u9).setCell ⟨g, 10, none⟩ u10).setCell ⟨g, 11, none⟩ u11).setCell ⟨g, 12, none⟩ u12) g 13 _ _ u13 h
  replace h : (((((((((((((w.setCell ⟨g, 1, none⟩ u1).setCell ⟨g, 2, none⟩ u2).setCell ⟨g, 3, none⟩ u3).setCell ⟨g, 4, none⟩ u4).setCell ⟨g, 5, none⟩ u5).setCell ⟨g, 6, none⟩ u6).setCell ⟨g, 7, none⟩ u7).setCell ⟨g, 8, none⟩ u8).setCell ⟨g, 9, none⟩ u9).setCell ⟨g, 10, none⟩ u10).setCell ⟨g, 11, none⟩ u11).setCell ⟨g, 12, none⟩ u12).setCell ⟨g, 13, none⟩ u13).heap[g]? = some (.cells #[v0, u1, u2, u3, u4, u5, u6, u7, u8, u9, u10, u11, u12, u13, v14] t (0, 0)) := h
  have h := heap_setCell_same (((((((((((((w.setCell ⟨g, 1, none⟩ u1).setCell ⟨g, 2, none⟩ u2).setCell ⟨g, 3, none⟩ u3).setCell ⟨g, 4, none⟩ u4).setCell ⟨g, 5, none⟩ u5).setCell ⟨g, 6, none⟩ u6).setCell ⟨g, 7, none⟩ u7).setCell ⟨g, 8, none⟩ u8).setCell ⟨g, 9, none⟩ u9).setCell ⟨g, 10, none⟩ u10).setCell ⟨g, 11, none⟩ u11).setCell ⟨g, 12, none⟩ u12).setCell ⟨g, 13, none⟩ u13) g 14 _ _ u14 h
  replace h : ((((((((((((((w.setCell ⟨g, 1, none⟩ u1).setCell ⟨g, 2, none⟩ u2).setCell ⟨g, 3, none⟩ u3).setCell ⟨g, 4, none⟩ u4).setCell ⟨g, 5, none⟩ u5).setCell ⟨g, 6, none⟩ u6).setCell ⟨g, 7, none⟩ u7).setCell ⟨g, 8, none⟩ u8).setCell ⟨g, 9, none⟩ u9).setCell ⟨g, 10, none⟩ u10).setCell ⟨g, 11, none⟩ u11).setCell ⟨g, 12, none⟩ u12).setCell ⟨g, 13, none⟩ u13).setCell ⟨g, 14, none⟩ u14).heap[g]? = some (.cells #[v0, u1, u2, u3, u4, u5, u6, u7, u8, u9, u10, u11, u12, u13, u14] t (0, 0)) := h
  exact h
theorem keep14 (w : World) (g : Nat) (u1 u2 u3 u4 u5 u6 u7 u8 u9 u10 u11 u12 u13 u14 : Value) : Kept g w ((((((((((((((w.setCell ⟨g, 1, none⟩ u1).setCell ⟨g, 2, none⟩ u2).setCell ⟨g, 3, none⟩ u3).setCell ⟨g, 4, none⟩ u4).setCell ⟨g, 5, none⟩ u5).setCell ⟨g, 6, none⟩ u6).setCell ⟨g, 7, none⟩ u7).setCell ⟨g, 8, none⟩ u8).setCell ⟨g, 9, none⟩ u9).setCell ⟨g, 10, none⟩ u10).setCell ⟨g, 11, none⟩ u11).setCell ⟨g, 12, none⟩ u12).setCell ⟨g, 13, none⟩ u13).setCell ⟨g, 14, none⟩ u14) :=
  (((((((((((((kept1 w g 1 u1).trans (kept1 _ g 2 u2)).trans (kept1 _ g 3 u3)).trans (kept1 _ g 4 u4)).trans (kept1 _ g 5 u5)).trans (kept1 _ g 6 u6)).trans (kept1 _ g 7 u7)).trans (kept1 _ g 8 u8)).trans (kept1 _ g 9 u9)).trans (kept1 _ g 10 u10)).trans (kept1 _ g 11 u11)).trans (kept1 _ g 12 u12)).trans (kept1 _ g 13 u13)).trans (kept1 _ g 14 u14)
theorem ret_c {fn : Func} {R : Ending → World → Prop} {p : Tmp} (h : fn.results = #[.cell p 31]) {tmps : Array Value} {w : World} {g : Nat} {x1 x2 x3 x4 x5 : Value} {t : TypeId} {fr : Nat × Nat}
    (hp : tmps.getD p undef = .pointer (some ⟨g, 0, none⟩)) (hg : w.heap[g]? = some (.cells #[x1, x2, x3, x4, x5] t fr)) (hR : R (.returned (.agg #[x1, x2, x3, x4, x5])) w) :
    bodyPost Try.prog fn R .ret { tmps := tmps, defers := [] } w :=
  bodyPost_ret (results_cell_row h tmps w g t #[x1, x2, x3, x4, x5] fr _ hp hg Try.underlying31 rfl (by kernel_rfl)) rfl hR
theorem isLocal_any (t : Int) (w : World) : Calls Try.prog 20 #[.int .i64 t] w fun e w' => e = .returned (.bool (okL t)) ∧ w = w' := by
  unfold okL
  by_cases h : -1125899906842624 ≤ t
  · rw [decide_eq_true h, Bool.true_and]
    go_enter Try.func20, Try.ntmps20
    go_wp2
    go_ret
    exact ⟨rfl, rfl⟩
  · rw [decide_eq_false h, Bool.false_and]
    go_enter Try.func20, Try.ntmps20
    go_wp2
    go_ret
    exact ⟨rfl, rfl⟩
theorem isHosts_any (k f y c l : Int) (hc : 0 ≤ c) (w : World) : Calls Try.prog 21 #[CV k f y c l] w fun e w' => e = .returned (.bool (okH k f y c l)) ∧ Below w.heap.size w w' := by
  unfold okH
  have X0 := Lib.hid (heap_alloc_new w (.cells #[.int .i64 k, .int .i64 f, .int .i64 y, .int .u32 c, .int .i64 l] 31 (0, 0)))
  by_cases h : rightC k f y c l
  · rw [decide_eq_true h, Bool.true_and]
    have D := Lib.hid (fun W => control_ok k f y c l W h)
    clear h
    by_cases hk : k = 1
    · subst hk
      rw [decide_eq_true rfl, Bool.true_and]
      go_enter Try.func21, Try.ntmps21
      go_wp2_with (go_at_call 30; refine (D.out _).mono ?_; rintro e w1 ⟨v, rfl, -, b1⟩; have B1 := Lib.hid b1; obtain ⟨c0, c1, c2, c3, c4⟩ := FrameW.cells5 (row_below b1 X0.out); clear b1)
      go_ret
      exact ⟨rfl, (al (Below.refl _ _) _).trans (B1.out.mono (by simp))⟩
    · rw [decide_eq_false hk, Bool.false_and]
      go_enter Try.func21, Try.ntmps21
      go_wp2_with (go_at_call 30; refine (D.out _).mono ?_; rintro e w1 ⟨v, rfl, -, b1⟩; have B1 := Lib.hid b1; obtain ⟨c0, c1, c2, c3, c4⟩ := FrameW.cells5 (row_below b1 X0.out); clear b1)
      go_ret
      exact ⟨rfl, (al (Below.refl _ _) _).trans (B1.out.mono (by simp))⟩
  · rw [decide_eq_false h, Bool.false_and, Bool.false_and]
    have D := Lib.hid (fun W => control_bad k f y c l W h hc)
    clear h
    go_enter Try.func21, Try.ntmps21
    go_wp2_with (go_at_call 30; refine (D.out _).mono ?_; rintro e w1 ⟨rfl, b1⟩; have B1 := Lib.hid b1; clear b1)
    go_ret
    exact ⟨rfl, (al (Below.refl _ _) _).trans (B1.out.mono (by simp))⟩
theorem new_bad (d : Int) (h : okW d = false) (w : World) : Calls Try.prog 10 #[.int .i64 d] w fun e w' => e = .returned (.tuple #[.pointer none, .int .i64 1]) ∧ w = w' := by
  by_cases h0 : d < 0
  · go_enter Try.func10, Try.ntmps10
    go_wp2
    go_ret2
    exact ⟨rfl, rfl⟩
  · have h1 : 1048576 < d := by
      unfold okW at h
      simp at h
      omega
    go_enter Try.func10, Try.ntmps10
    go_wp2
    go_ret2
    exact ⟨rfl, rfl⟩
theorem new_ok (d : Int) (h : okW d = true) (w : World) : Calls Try.prog 10 #[.int .i64 d] w fun e w' => e = .returned (.tuple #[.pointer (some ⟨w.heap.size, 0, none⟩), .int .i64 0]) ∧ w'.heap[w.heap.size]? = some (pbx d 0 0 zero zero) ∧ Below w.heap.size w w' := by
  have h0 := okW_iff.1 h
  have n0 : ¬ d < 0 := by omega
  have n1 : ¬ 1048576 < d := by omega
  clear h h0
  go_enter Try.func10, Try.ntmps10
  go_wp2
  go_ret2
  exact ⟨rfl, heap_alloc_new _ _, al (Below.refl _ _) _⟩
theorem open_nil (w : World) : Calls Try.prog 16 #[.pointer none] w fun e w' => e = .returned (.bool false) ∧ w = w' := by
  go_enter Try.func16, Try.ntmps16
  go_wp2
  go_ret
  exact ⟨rfl, rfl⟩
theorem open_any {w : World} {g : Nat} {d b : Int} {s : Nat} {R C : Nat → Int} (h : w.heap[g]? = some (pbx d b s R C)) : Calls Try.prog 16 #[.pointer (some ⟨g, 0, none⟩)] w fun e w' => e = .returned (.bool (decide (s ≠ 0))) ∧ w = w' := by
  obtain ⟨a0, a1, a2, a3, a4, a5, a6, a7, a8, a9, a10, a11, a12, a13, a14⟩ := cells15 h
  have e : ((s : Int) != 0) = decide (s ≠ 0) := by rw [Bool.eq_iff_iff, bne_iff_ne, decide_eq_true_iff]; omega
  have HE := Lib.hid e
  clear h e
  go_enter Try.func16, Try.ntmps16
  go_wp2
  go_ret
  exact ⟨by rw [← HE.out]; rfl, rfl⟩
theorem end_any {w : World} {g : Nat} {d b : Int} {s : Nat} {R C : Nat → Int} (h : w.heap[g]? = some (pbx d b s R C)) (hb : -1125899906842624 ≤ b ∧ b ≤ 1125899906842624) (hd : 0 ≤ d ∧ d ≤ 1048576) : Calls Try.prog 22 #[.pointer (some ⟨g, 0, none⟩)] w fun e w' => e = .returned (.int .i64 (b + d)) ∧ Below w.heap.size w w' := by
  obtain ⟨a0, a1, a2, a3, a4, a5, a6, a7, a8, a9, a10, a11, a12, a13, a14⟩ := cells15 h
  have e1 : IntKind.i64.wrap (b + d) = b + d := by rw [IntKind.wrap_i64]; omega
  clear h
  go_enter Try.func22, Try.ntmps22
  go_wp2
  go_region
  go_wp2
  go_ret
  exact ⟨rfl, (Below.refl _ _).drew⟩
/-- The frame of what was compressed. -/
theorem frame_any (p : Int) (s : Int) (y : Int) (f : Int) (w : World) : Calls Try.prog 15 #[.agg #[.int .i64 p, .int .u32 s, .int .i64 y], .int .i64 f] w fun e w' => e = .returned (CV 2 f y s 0) ∧ Below w.heap.size w w' := by
  go_enter Try.func15, Try.ntmps15
  go_wp2
  refine ret_c (g := w.heap.size + 1) rfl rfl (heap_at (by simp) _) ?_
  exact ⟨rfl, al (al (Below.refl _ _) _) _⟩
end Go.Proofs.Ytpjaijibkjmgiaa.CompW
