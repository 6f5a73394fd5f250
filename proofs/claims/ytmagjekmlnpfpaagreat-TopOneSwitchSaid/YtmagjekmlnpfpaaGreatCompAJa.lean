/- A collection in memory; package comp's small functions; a collection and one frame more. -/
import Derived.Test.YtmagjekmlnpfpaaGreatCrewPJa
import Derived.Test.YtmagjekmlnpfpaaGreatCrewAJa
import Derived.Test.YtmagjekmlnpfpaaGreatFrameLay
import Derived.Test.YtmagjekmlnpfpaaGreatFrameEJa
import Derived.Lib.ConvBytes
import Derived.Laws.StructEq
import Derived.Test.YtmagjekmlnpfpaaGreatSmall
import Derived.Deep.RegionLaw
import Derived.Deep.RegionHeld3
namespace Go.Proofs.YtmagjekmlnpfpaaGreat.CompW
open Go.RowKit Shell
open CrewW (only has of has_any of_any mem)
open FrameW (CV rightC control_ok control_bad)
def okL (t : Int) : Bool := decide (-1125899906842624 ≤ t) && decide (t ≤ 1125899906842624)
theorem okL_iff {t : Int} : okL t = true ↔ -1125899906842624 ≤ t ∧ t ≤ 1125899906842624 := by unfold okL; simp
def okH (k f y c l : Int) : Bool := decide (rightC k f y c l) && decide (k = 1) && decide (f < 6)
theorem okH_iff {k f y c l : Int} : okH k f y c l = true ↔ rightC k f y c l ∧ k = 1 ∧ f < 6 := by unfold okH; simp [and_assoc]
def okW (d : Int) : Bool := decide (0 ≤ d) && decide (d ≤ 1048576)
theorem okW_iff {d : Int} : okW d = true ↔ 0 ≤ d ∧ d ≤ 1048576 := by unfold okW; simp
/-- A collection by value: its first, its senders, its readings and its cycles by host. -/
abbrev GV (b : Int) (s : Nat) (R C : Nat → Int) : Value := .agg #[.int .i64 b, .int .u32 (s : Int), .int .i64 (R 0), .int .i64 (R 1), .int .i64 (R 2), .int .i64 (R 3), .int .i64 (R 4), .int .i64 (R 5), .int .i64 (C 0), .int .i64 (C 1), .int .i64 (C 2), .int .i64 (C 3), .int .i64 (C 4), .int .i64 (C 5)]
abbrev gbx (b : Int) (s : Nat) (R C : Nat → Int) : Obj := .cells #[.int .i64 b, .int .u32 (s : Int), .int .i64 (R 0), .int .i64 (R 1), .int .i64 (R 2), .int .i64 (R 3), .int .i64 (R 4), .int .i64 (R 5), .int .i64 (C 0), .int .i64 (C 1), .int .i64 (C 2), .int .i64 (C 3), .int .i64 (C 4), .int .i64 (C 5)] 232 (0, 0)
abbrev pbx (d b : Int) (s : Nat) (R C : Nat → Int) : Obj := .cells #[.int .i64 d, .int .i64 b, .int .u32 (s : Int), .int .i64 (R 0), .int .i64 (R 1), .int .i64 (R 2), .int .i64 (R 3), .int .i64 (R 4), .int .i64 (R 5), .int .i64 (C 0), .int .i64 (C 1), .int .i64 (C 2), .int .i64 (C 3), .int .i64 (C 4), .int .i64 (C 5)] 234 (0, 0)
abbrev gz : Obj := .cells #[.int .i64 0, .int .u32 0, .int .i64 0, .int .i64 0, .int .i64 0, .int .i64 0, .int .i64 0, .int .i64 0, .int .i64 0, .int .i64 0, .int .i64 0, .int .i64 0, .int .i64 0, .int .i64 0] 232 (0, 0)
abbrev cb (k f y c l : Int) : Obj := .cells #[.int .i64 k, .int .i64 f, .int .i64 y, .int .u32 c, .int .i64 l] 157 (0, 0)
theorem cells14 {w : World} {j : Nat} {v0 v1 v2 v3 v4 v5 v6 v7 v8 v9 v10 v11 v12 v13 : Value} {t : TypeId} (h : w.heap[j]? = some (.cells #[v0, v1, v2, v3, v4, v5, v6, v7, v8, v9, v10, v11, v12, v13] t (0, 0))) : w.cell? ⟨j, 0, none⟩ = some v0 ∧ w.cell? ⟨j, 1, none⟩ = some v1 ∧ w.cell? ⟨j, 2, none⟩ = some v2 ∧ w.cell? ⟨j, 3, none⟩ = some v3 ∧ w.cell? ⟨j, 4, none⟩ = some v4 ∧ w.cell? ⟨j, 5, none⟩ = some v5 ∧ w.cell? ⟨j, 6, none⟩ = some v6 ∧ w.cell? ⟨j, 7, none⟩ = some v7 ∧ w.cell? ⟨j, 8, none⟩ = some v8 ∧ w.cell? ⟨j, 9, none⟩ = some v9 ∧ w.cell? ⟨j, 10, none⟩ = some v10 ∧ w.cell? ⟨j, 11, none⟩ = some v11 ∧ w.cell? ⟨j, 12, none⟩ = some v12 ∧ w.cell? ⟨j, 13, none⟩ = some v13 :=
  ⟨cell_of_row w j 0 _ _ _ h, cell_of_row w j 1 _ _ _ h, cell_of_row w j 2 _ _ _ h, cell_of_row w j 3 _ _ _ h, cell_of_row w j 4 _ _ _ h, cell_of_row w j 5 _ _ _ h, cell_of_row w j 6 _ _ _ h, cell_of_row w j 7 _ _ _ h, cell_of_row w j 8 _ _ _ h, cell_of_row w j 9 _ _ _ h, cell_of_row w j 10 _ _ _ h, cell_of_row w j 11 _ _ _ h, cell_of_row w j 12 _ _ _ h, cell_of_row w j 13 _ _ _ h⟩
theorem frozen14 {w : World} {j : Nat} {v0 v1 v2 v3 v4 v5 v6 v7 v8 v9 v10 v11 v12 v13 : Value} {t : TypeId} (h : w.heap[j]? = some (.cells #[v0, v1, v2, v3, v4, v5, v6, v7, v8, v9, v10, v11, v12, v13] t (0, 0))) : w.frozen? ⟨j, 0, none⟩ = false ∧ w.frozen? ⟨j, 1, none⟩ = false ∧ w.frozen? ⟨j, 2, none⟩ = false ∧ w.frozen? ⟨j, 3, none⟩ = false ∧ w.frozen? ⟨j, 4, none⟩ = false ∧ w.frozen? ⟨j, 5, none⟩ = false ∧ w.frozen? ⟨j, 6, none⟩ = false ∧ w.frozen? ⟨j, 7, none⟩ = false ∧ w.frozen? ⟨j, 8, none⟩ = false ∧ w.frozen? ⟨j, 9, none⟩ = false ∧ w.frozen? ⟨j, 10, none⟩ = false ∧ w.frozen? ⟨j, 11, none⟩ = false ∧ w.frozen? ⟨j, 12, none⟩ = false ∧ w.frozen? ⟨j, 13, none⟩ = false :=
  ⟨frozen_of_row w j 0 _ _ h, frozen_of_row w j 1 _ _ h, frozen_of_row w j 2 _ _ h, frozen_of_row w j 3 _ _ h, frozen_of_row w j 4 _ _ h, frozen_of_row w j 5 _ _ h, frozen_of_row w j 6 _ _ h, frozen_of_row w j 7 _ _ h, frozen_of_row w j 8 _ _ h, frozen_of_row w j 9 _ _ h, frozen_of_row w j 10 _ _ h, frozen_of_row w j 11 _ _ h, frozen_of_row w j 12 _ _ h, frozen_of_row w j 13 _ _ h⟩
theorem cells15 {w : World} {j : Nat} {v0 v1 v2 v3 v4 v5 v6 v7 v8 v9 v10 v11 v12 v13 v14 : Value} {t : TypeId} (h : w.heap[j]? = some (.cells #[v0, v1, v2, v3, v4, v5, v6, v7, v8, v9, v10, v11, v12, v13, v14] t (0, 0))) : w.cell? ⟨j, 0, none⟩ = some v0 ∧ w.cell? ⟨j, 1, none⟩ = some v1 ∧ w.cell? ⟨j, 2, none⟩ = some v2 ∧ w.cell? ⟨j, 3, none⟩ = some v3 ∧ w.cell? ⟨j, 4, none⟩ = some v4 ∧ w.cell? ⟨j, 5, none⟩ = some v5 ∧ w.cell? ⟨j, 6, none⟩ = some v6 ∧ w.cell? ⟨j, 7, none⟩ = some v7 ∧ w.cell? ⟨j, 8, none⟩ = some v8 ∧ w.cell? ⟨j, 9, none⟩ = some v9 ∧ w.cell? ⟨j, 10, none⟩ = some v10 ∧ w.cell? ⟨j, 11, none⟩ = some v11 ∧ w.cell? ⟨j, 12, none⟩ = some v12 ∧ w.cell? ⟨j, 13, none⟩ = some v13 ∧ w.cell? ⟨j, 14, none⟩ = some v14 :=
  ⟨cell_of_row w j 0 _ _ _ h, cell_of_row w j 1 _ _ _ h, cell_of_row w j 2 _ _ _ h, cell_of_row w j 3 _ _ _ h, cell_of_row w j 4 _ _ _ h, cell_of_row w j 5 _ _ _ h, cell_of_row w j 6 _ _ _ h, cell_of_row w j 7 _ _ _ h, cell_of_row w j 8 _ _ _ h, cell_of_row w j 9 _ _ _ h, cell_of_row w j 10 _ _ _ h, cell_of_row w j 11 _ _ _ h, cell_of_row w j 12 _ _ _ h, cell_of_row w j 13 _ _ _ h, cell_of_row w j 14 _ _ _ h⟩
theorem frozen15 {w : World} {j : Nat} {v0 v1 v2 v3 v4 v5 v6 v7 v8 v9 v10 v11 v12 v13 v14 : Value} {t : TypeId} (h : w.heap[j]? = some (.cells #[v0, v1, v2, v3, v4, v5, v6, v7, v8, v9, v10, v11, v12, v13, v14] t (0, 0))) : w.frozen? ⟨j, 0, none⟩ = false ∧ w.frozen? ⟨j, 1, none⟩ = false ∧ w.frozen? ⟨j, 2, none⟩ = false ∧ w.frozen? ⟨j, 3, none⟩ = false ∧ w.frozen? ⟨j, 4, none⟩ = false ∧ w.frozen? ⟨j, 5, none⟩ = false ∧ w.frozen? ⟨j, 6, none⟩ = false ∧ w.frozen? ⟨j, 7, none⟩ = false ∧ w.frozen? ⟨j, 8, none⟩ = false ∧ w.frozen? ⟨j, 9, none⟩ = false ∧ w.frozen? ⟨j, 10, none⟩ = false ∧ w.frozen? ⟨j, 11, none⟩ = false ∧ w.frozen? ⟨j, 12, none⟩ = false ∧ w.frozen? ⟨j, 13, none⟩ = false ∧ w.frozen? ⟨j, 14, none⟩ = false :=
  ⟨frozen_of_row w j 0 _ _ h, frozen_of_row w j 1 _ _ h, frozen_of_row w j 2 _ _ h, frozen_of_row w j 3 _ _ h, frozen_of_row w j 4 _ _ h, frozen_of_row w j 5 _ _ h, frozen_of_row w j 6 _ _ h, frozen_of_row w j 7 _ _ h, frozen_of_row w j 8 _ _ h, frozen_of_row w j 9 _ _ h, frozen_of_row w j 10 _ _ h, frozen_of_row w j 11 _ _ h, frozen_of_row w j 12 _ _ h, frozen_of_row w j 13 _ _ h, frozen_of_row w j 14 _ _ h⟩
theorem put14 {w : World} {g : Nat} {v0 v1 v2 v3 v4 v5 v6 v7 v8 v9 v10 v11 v12 v13 v14 : Value} {t : TypeId} (h : w.heap[g]? = some (.cells #[v0, v1, v2, v3, v4, v5, v6, v7, v8, v9, v10, v11, v12, v13, v14] t (0, 0))) (u1 u2 u3 u4 u5 u6 u7 u8 u9 u10 u11 u12 u13 u14 : Value) : ((((((((((((((w.setCell ⟨g, 1, none⟩ u1).setCell ⟨g, 2, none⟩ u2).setCell ⟨g, 3, none⟩ u3).setCell ⟨g, 4, none⟩ u4).setCell ⟨g, 5, none⟩ u5).setCell ⟨g, 6, none⟩ u6).setCell ⟨g, 7, none⟩ u7).setCell ⟨g, 8, none⟩ u8).setCell ⟨g, 9, none⟩ u9).setCell ⟨g, 10, none⟩ u10).setCell ⟨g, 11, none⟩ u11).setCell ⟨g, 12, none⟩ u12).setCell ⟨g, 13, none⟩ u13).setCell ⟨g, 14, none⟩ u14).heap[g]? = some (.cells #[v0, u1, u2, u3, u4, u5, u6, u7, u8, u9, u10, u11, u12, u13, u14] t (0, 0)) := by
  have h := heap_setCell_same w g 1 _ _ u1 h
  replace h : (w.setCell ⟨g, 1, none⟩ u1).heap[g]? = some (.cells #[v0, u1, v2, v3, v4, v5, v6, v7, v8, v9, v10, v11, v12, v13, v14] t (0, 0)) := h
  have h := heap_setCell_same (w.setCell ⟨g, 1, none⟩ u1) g 2 _ _ u2 h
  replace h : ((w.setCell ⟨g, 1, none⟩ u1).setCell ⟨g, 2, none⟩ u2).heap[g]? = some (.cells #[v0, u1, u2, v3, v4, v5, v6, v7, v8, v9, v10, v11, v12, v13, v14] t (0, 0)) := h
  have h := heap_setCell_same ((w.setCell ⟨g, 1, none⟩ u1).setCell ⟨g, 2, none⟩ u2) g 3 _ _ u3 h
  replace h : (((w.setCell ⟨g, 1, none⟩ u1).setCell ⟨g, 2, none⟩ u2).setCell ⟨g, 3, none⟩ u3).heap[g]? = some (.cells #[v0, u1, u2, u3, v4, v5, v6, v7, v8, v9, v10, v11, v12, v13, v14] t (0, 0)) := h
  have h := heap_setCell_same (((w.setCell ⟨g, 1, none⟩ u1).setCell ⟨g, 2, none⟩ u2).setCell ⟨g, 3, none⟩ u3) g 4 _ _ u4 h
  replace h : ((((w.setCell ⟨g, 1, none⟩ u1).setCell ⟨g, 2, none⟩ u2).setCell ⟨g, 3, none⟩ u3).setCell ⟨g, 4, none⟩ u4).heap[g]? = some (.cells #[v0, u1, u2, u3, u4, v5, v6, v7, v8, v9, v10, v11, v12, v13, v14] t (0, 0)) := h
  have h := heap_setCell_same ((((w.setCell ⟨g, 1, none⟩ u1).setCell ⟨g, 2, none⟩ u2).setCell ⟨g, 3, none⟩ u3).setCell ⟨g, 4, none⟩ u4) g 5 _ _ u5 h
  replace h : (((((w.setCell ⟨g, 1, none⟩ u1).setCell ⟨g, 2, none⟩ u2).setCell ⟨g, 3, none⟩ u3).setCell ⟨g, 4, none⟩ u4).setCell ⟨g, 5, none⟩ u5).heap[g]? = some (.cells #[v0, u1, u2, u3, u4, u5, v6, v7, v8, v9, v10, v11, v12, v13, v14] t (0, 0)) := h
  have h := heap_setCell_same (((((w.setCell ⟨g, 1, none⟩ u1).setCell ⟨g, 2, none⟩ u2).setCell ⟨g, 3, none⟩ u3).setCell ⟨g, 4, none⟩ u4).setCell ⟨g, 5, none⟩ u5) g 6 _ _ u6 h
  replace h : ((((((w.setCell ⟨g, 1, none⟩ u1).setCell ⟨g, 2, none⟩ u2).setCell ⟨g, 3, none⟩ u3).setCell ⟨g, 4, none⟩ u4).setCell ⟨g, 5, none⟩ u5).setCell ⟨g, 6, none⟩ u6).heap[g]? = some (.cells #[v0, u1, u2, u3, u4, u5, u6, v7, v8, v9, v10, v11, v12, v13, v14] t (0, 0)) := h
  have h := heap_setCell_same ((((((w.setCell ⟨g, 1, none⟩ u1).setCell ⟨g, 2, none⟩ u2).setCell ⟨g, 3, none⟩ u3).setCell ⟨g, 4, none⟩ u4).setCell ⟨g, 5, none⟩ u5).setCell ⟨g, 6, none⟩ u6) g 7 _ _ u7 h
  replace h : (((((((w.setCell ⟨g, 1, none⟩ u1).setCell ⟨g, 2, none⟩ u2).setCell ⟨g, 3, none⟩ u3).setCell ⟨g, 4, none⟩ u4).setCell ⟨g, 5, none⟩ u5).setCell ⟨g, 6, none⟩ u6).setCell ⟨g, 7, none⟩ u7).heap[g]? = some (.cells #[v0, u1, u2, u3, u4, u5, u6, u7, v8, v9, v10, v11, v12, v13, v14] t (0, 0)) := h
  have h := heap_setCell_same (((((((w.setCell ⟨g, 1, none⟩ u1).setCell ⟨g, 2, none⟩ u2).setCell ⟨g, 3, none⟩ u3).setCell ⟨g, 4, none⟩ u4).setCell ⟨g, 5, none⟩ u5).setCell ⟨g, 6, none⟩ u6).setCell ⟨g, 7, none⟩ u7) g 8 _ _ u8 h
  replace h : ((((((((w.setCell ⟨g, 1, none⟩ u1).setCell ⟨g, 2, none⟩ u2).setCell ⟨g, 3, none⟩ u3).setCell ⟨g, 4, none⟩ u4).setCell ⟨g, 5, none⟩ u5).setCell ⟨g, 6, none⟩ u6).setCell ⟨g, 7, none⟩ u7).setCell ⟨g, 8, none⟩ u8).heap[g]? = some (.cells #[v0, u1, u2, u3, u4, u5, u6, u7, u8, v9, v10, v11, v12, v13, v14] t (0, 0)) := h
  have h := heap_setCell_same ((((((((w.setCell ⟨g, 1, none⟩ u1).setCell ⟨g, 2, none⟩ u2).setCell ⟨g, 3, none⟩ u3).setCell ⟨g, 4, none⟩ u4).setCell ⟨g, 5, none⟩ u5).setCell ⟨g, 6, none⟩ u6).setCell ⟨g, 7, none⟩ u7).setCell ⟨g, 8, none⟩ u8) g 9 _ _ u9 h
  replace h : (((((((((w.setCell ⟨g, 1, none⟩ u1).setCell ⟨g, 2, none⟩ u2).setCell ⟨g, 3, none⟩ u3).setCell ⟨g, 4, none⟩ u4).setCell ⟨g, 5, none⟩ u5).setCell ⟨g, 6, none⟩ u6).setCell ⟨g, 7, none⟩ u7).setCell ⟨g, 8, none⟩ u8).setCell ⟨g, 9, none⟩ u9).heap[g]? = some (.cells #[v0, u1, u2, u3, u4, u5, u6, u7, u8, u9, v10, v11, v12, v13, v14] t (0, 0)) := h
  have h := heap_setCell_same (((((((((w.setCell ⟨g, 1, none⟩ u1).setCell ⟨g, 2, none⟩ u2).setCell ⟨g, 3, none⟩ u3).setCell ⟨g, 4, none⟩ u4).setCell ⟨g, 5, none⟩ u5).setCell ⟨g, 6, none⟩ u6).setCell ⟨g, 7, none⟩ u7).setCell ⟨g, 8, none⟩ u8).setCell ⟨g, 9, none⟩ u9) g 10 _ _ u10 h
  replace h : ((((((((((w.setCell ⟨g, 1, none⟩ u1).setCell ⟨g, 2, none⟩ u2).setCell ⟨g, 3, none⟩ u3).setCell ⟨g, 4, none⟩ u4).setCell ⟨g, 5, none⟩ u5).setCell ⟨g, 6, none⟩ u6).setCell ⟨g, 7, none⟩ u7).setCell ⟨g, 8, none⟩ u8).setCell ⟨g, 9, none⟩ u9).setCell ⟨g, 10, none⟩ u10).heap[g]? = some (.cells #[v0, u1, u2, u3, u4, u5, u6, u7, u8, u9, u10, v11, v12, v13, v14] t (0, 0)) := h
  have h := heap_setCell_same ((((((((((w.setCell ⟨g, 1, none⟩ u1).setCell ⟨g, 2, none⟩ u2).setCell ⟨g, 3, none⟩ u3).setCell ⟨g, 4, none⟩ u4).setCell ⟨g, 5, none⟩ u5).setCell ⟨g, 6, none⟩ u6).setCell ⟨g, 7, none⟩ u7).setCell ⟨g, 8, none⟩ u8).setCell ⟨g, 9, none⟩ u9).setCell ⟨g, 10, none⟩ u10) g 11 _ _ u11 h
  replace h : (((((((((((w.setCell ⟨g, 1, none⟩ u1).setCell ⟨g, 2, none⟩ u2).setCell ⟨g, 3, none⟩ u3).setCell ⟨g, 4, none⟩ u4).setCell ⟨g, 5, none⟩ u5).setCell ⟨g, 6, none⟩ u6).setCell ⟨g, 7, none⟩ u7).setCell ⟨g, 8, none⟩ u8).setCell ⟨g, 9, none⟩ u9).setCell ⟨g, 10, none⟩ u10).setCell ⟨g, 11, none⟩ u11).heap[g]? = some (.cells #[v0, u1, u2, u3, u4, u5, u6, u7, u8, u9, u10, u11, v12, v13, v14] t (0, 0)) := h
  have h := heap_setCell_same (((((((((((w.setCell ⟨g, 1, none⟩ u1).setCell ⟨g, 2, none⟩ u2).setCell ⟨g, 3, none⟩ u3).setCell ⟨g, 4, none⟩ u4).setCell ⟨g, 5, none⟩ u5).setCell ⟨g, 6, none⟩ u6).setCell ⟨g, 7, none⟩ u7).setCell ⟨g, 8, none⟩ u8).setCell ⟨g, 9, none⟩ u9).setCell ⟨g, 10, none⟩ u10).setCell ⟨g, 11, none⟩ u11) g 12 _ _ u12 h
  replace h : ((((((((((((w.setCell ⟨g, 1, none⟩ u1).setCell ⟨g, 2, none⟩ u2).setCell ⟨g, 3, none⟩ u3).setCell ⟨g, 4, none⟩ u4).setCell ⟨g, 5, none⟩ u5).setCell ⟨g, 6, none⟩ u6).setCell ⟨g, 7, none⟩ u7).setCell ⟨g, 8, none⟩ u8).setCell ⟨g, 9, none⟩ u9).setCell ⟨g, 10, none⟩ u10).setCell ⟨g, 11, none⟩ u11).setCell ⟨g, 12, none⟩ u12).heap[g]? = some (.cells #[v0, u1, u2, u3, u4, u5, u6, u7, u8, u9, u10, u11, u12, v13, v14] t (0, 0)) := h
  have h := heap_setCell_same ((((((((((((w.setCell ⟨g, 1, none⟩ u1).setCell ⟨g, 2, none⟩ u2).setCell ⟨g, 3, none⟩ u3).setCell ⟨g, 4, none⟩ u4).setCell ⟨g, 5, none⟩ u5).setCell ⟨g, 6, none⟩ u6).setCell ⟨g, 7, none⟩ u7).setCell ⟨g, 8, none⟩ u8).setCell ⟨g, 9, none⟩ u9).setCell ⟨g, 10, none⟩ u10).setCell ⟨g, 11, none⟩ u11).setCell ⟨g, 12, none⟩ u12) g 13 _ _ u13 h
  replace h : (((((((((((((w.setCell ⟨g, 1, none⟩ u1).setCell ⟨g, 2, none⟩ u2).setCell ⟨g, 3, none⟩ u3).setCell ⟨g, 4, none⟩ u4).setCell ⟨g, 5, none⟩ u5).setCell ⟨g, 6, none⟩ u6).setCell ⟨g, 7, none⟩ u7).setCell ⟨g, 8, none⟩ u8).setCell ⟨g, 9, none⟩ u9).setCell ⟨g, 10, none⟩ u10).setCell ⟨g, 11, none⟩ u11).setCell ⟨g, 12, none⟩ u12).setCell ⟨g, 13, none⟩ u13).heap[g]? = some (.cells #[v0, u1, u2, u3, u4, u5, u6, u7, u8, u9, u10, u11, u12, u13, v14] t (0, 0)) := h
  have h := heap_setCell_same (((((((((((((w.setCell ⟨g, 1, none⟩ u1).setCell ⟨g, 2, none⟩ u2).setCell ⟨g, 3, none⟩ u3).setCell ⟨g, 4, none⟩ u4).setCell ⟨g, 5, none⟩ u5).setCell ⟨g, 6, none⟩ u6).setCell ⟨g, 7, none⟩ u7).setCell ⟨g, 8, none⟩ u8).setCell ⟨g, 9, none⟩ u9).setCell ⟨g, 10, none⟩ u10).setCell ⟨g, 11, none⟩ u11).setCell ⟨g, 12, none⟩ u12).setCell ⟨g, 13, none⟩ u13) g 14 _ _ u14 h
  replace h : ((((((((((((((w.setCell ⟨g, 1, none⟩ u1).setCell ⟨g, 2, none⟩ u2).setCell ⟨g, 3, none⟩ u3).setCell ⟨g, 4, none⟩ u4).setCell ⟨g, 5, none⟩ u5).setCell ⟨g, 6, none⟩ u6).setCell ⟨g, 7, none⟩ u7).setCell ⟨g, 8, none⟩ u8).setCell ⟨g, 9, none⟩ u9).setCell ⟨g, 10, none⟩ u10).setCell ⟨g, 11, none⟩ u11).setCell ⟨g, 12, none⟩ u12).setCell ⟨g, 13, none⟩ u13).setCell ⟨g, 14, none⟩ u14).heap[g]? = some (.cells #[v0, u1, u2, u3, u4, u5, u6, u7, u8, u9, u10, u11, u12, u13, u14] t (0, 0)) := h
  exact h
theorem keep14 (w : World) (g : Nat) (u1 u2 u3 u4 u5 u6 u7 u8 u9 u10 u11 u12 u13 u14 : Value) : Kept g w ((((((((((((((w.setCell ⟨g, 1, none⟩ u1).setCell ⟨g, 2, none⟩ u2).setCell ⟨g, 3, none⟩ u3).setCell ⟨g, 4, none⟩ u4).setCell ⟨g, 5, none⟩ u5).setCell ⟨g, 6, none⟩ u6).setCell ⟨g, 7, none⟩ u7).setCell ⟨g, 8, none⟩ u8).setCell ⟨g, 9, none⟩ u9).setCell ⟨g, 10, none⟩ u10).setCell ⟨g, 11, none⟩ u11).setCell ⟨g, 12, none⟩ u12).setCell ⟨g, 13, none⟩ u13).setCell ⟨g, 14, none⟩ u14) :=
  (((((((((((((kept1 w g 1 u1).trans (kept1 _ g 2 u2)).trans (kept1 _ g 3 u3)).trans (kept1 _ g 4 u4)).trans (kept1 _ g 5 u5)).trans (kept1 _ g 6 u6)).trans (kept1 _ g 7 u7)).trans (kept1 _ g 8 u8)).trans (kept1 _ g 9 u9)).trans (kept1 _ g 10 u10)).trans (kept1 _ g 11 u11)).trans (kept1 _ g 12 u12)).trans (kept1 _ g 13 u13)).trans (kept1 _ g 14 u14)
theorem isLocal_any (t : Int) (w : World) : Calls Tryz.prog 167 #[.int .i64 t] w fun e w' => e = .returned (.bool (okL t)) ∧ w = w' := by
  unfold okL
  by_cases h : -1125899906842624 ≤ t
  · rw [decide_eq_true h, Bool.true_and]
    go_enter Tryz.func167, Tryz.ntmps167
    go_wp2
    go_ret
    exact ⟨rfl, rfl⟩
  · rw [decide_eq_false h, Bool.false_and]
    go_enter Tryz.func167, Tryz.ntmps167
    go_wp2
    go_ret
    exact ⟨rfl, rfl⟩
theorem isHosts_any (k f y c l : Int) (hc : 0 ≤ c) (w : World) : Calls Tryz.prog 168 #[CV k f y c l] w fun e w' => e = .returned (.bool (okH k f y c l)) ∧ Below w.heap.size w w' := by
  unfold okH
  have X0 := Lib.hid (heap_alloc_new w (.cells #[.int .i64 k, .int .i64 f, .int .i64 y, .int .u32 c, .int .i64 l] 157 (0, 0)))
  by_cases h : rightC k f y c l
  · rw [decide_eq_true h, Bool.true_and]
    have D := Lib.hid (fun W => control_ok k f y c l W h)
    clear h
    by_cases hk : k = 1
    · subst hk
      rw [decide_eq_true rfl, Bool.true_and]
      go_enter Tryz.func168, Tryz.ntmps168
      go_wp2_with (go_at_call 175; refine (D.out _).mono ?_; rintro e w1 ⟨v, rfl, -, b1⟩; have B1 := Lib.hid b1; obtain ⟨c0, c1, c2, c3, c4⟩ := FrameW.cells5 (row_below b1 X0.out); clear b1)
      go_ret
      exact ⟨rfl, (al (Below.refl _ _) _).trans (B1.out.mono (by simp))⟩
    · rw [decide_eq_false hk, Bool.false_and]
      go_enter Tryz.func168, Tryz.ntmps168
      go_wp2_with (go_at_call 175; refine (D.out _).mono ?_; rintro e w1 ⟨v, rfl, -, b1⟩; have B1 := Lib.hid b1; obtain ⟨c0, c1, c2, c3, c4⟩ := FrameW.cells5 (row_below b1 X0.out); clear b1)
      go_ret
      exact ⟨rfl, (al (Below.refl _ _) _).trans (B1.out.mono (by simp))⟩
  · rw [decide_eq_false h, Bool.false_and, Bool.false_and]
    have D := Lib.hid (fun W => control_bad k f y c l W h hc)
    clear h
    go_enter Tryz.func168, Tryz.ntmps168
    go_wp2_with (go_at_call 175; refine (D.out _).mono ?_; rintro e w1 ⟨rfl, b1⟩; have B1 := Lib.hid b1; clear b1)
    go_ret
    exact ⟨rfl, (al (Below.refl _ _) _).trans (B1.out.mono (by simp))⟩
theorem new_bad (d : Int) (h : okW d = false) (w : World) : Calls Tryz.prog 138 #[.int .i64 d] w fun e w' => e = .returned (.tuple #[.pointer none, .int .i64 1]) ∧ w = w' := by
  by_cases h0 : d < 0
  · go_enter Tryz.func138, Tryz.ntmps138
    go_wp2
    go_ret2
    exact ⟨rfl, rfl⟩
  · have h1 : 1048576 < d := by
      unfold okW at h
      simp at h
      omega
    go_enter Tryz.func138, Tryz.ntmps138
    go_wp2
    go_ret2
    exact ⟨rfl, rfl⟩
theorem new_ok (d : Int) (h : okW d = true) (w : World) : Calls Tryz.prog 138 #[.int .i64 d] w fun e w' => e = .returned (.tuple #[.pointer (some ⟨w.heap.size, 0, none⟩), .int .i64 0]) ∧ w'.heap[w.heap.size]? = some (pbx d 0 0 zero zero) ∧ Below w.heap.size w w' := by
  have h0 := okW_iff.1 h
  have n0 : ¬ d < 0 := by omega
  have n1 : ¬ 1048576 < d := by omega
  clear h h0
  go_enter Tryz.func138, Tryz.ntmps138
  go_wp2
  go_ret2
  exact ⟨rfl, heap_alloc_new _ _, al (Below.refl _ _) _⟩
theorem open_any {w : World} {g : Nat} {d b : Int} {s : Nat} {R C : Nat → Int} (h : w.heap[g]? = some (pbx d b s R C)) : Calls Tryz.prog 169 #[.pointer (some ⟨g, 0, none⟩)] w fun e w' => e = .returned (.bool (decide (s ≠ 0))) ∧ w = w' := by
  obtain ⟨a0, a1, a2, a3, a4, a5, a6, a7, a8, a9, a10, a11, a12, a13, a14⟩ := cells15 h
  have e : ((s : Int) != 0) = decide (s ≠ 0) := by rw [Bool.eq_iff_iff, bne_iff_ne, decide_eq_true_iff]; omega
  have HE := Lib.hid e
  clear h e
  go_enter Tryz.func169, Tryz.ntmps169
  go_wp2
  go_ret
  exact ⟨by rw [← HE.out]; rfl, rfl⟩
theorem end_any {w : World} {g : Nat} {d b : Int} {s : Nat} {R C : Nat → Int} (h : w.heap[g]? = some (pbx d b s R C)) (hb : -1125899906842624 ≤ b ∧ b ≤ 1125899906842624) (hd : 0 ≤ d ∧ d ≤ 1048576) : Calls Tryz.prog 170 #[.pointer (some ⟨g, 0, none⟩)] w fun e w' => e = .returned (.int .i64 (b + d)) ∧ Below w.heap.size w w' := by
  obtain ⟨a0, a1, a2, a3, a4, a5, a6, a7, a8, a9, a10, a11, a12, a13, a14⟩ := cells15 h
  have e1 : IntKind.i64.wrap (b + d) = b + d := by rw [IntKind.wrap_i64]; omega
  clear h
  go_enter Tryz.func170, Tryz.ntmps170
  go_wp2
  go_region
  go_wp2
  go_ret
  exact ⟨rfl, (Below.refl _ _).drew⟩
end Go.Proofs.YtmagjekmlnpfpaaGreat.CompW



/- A collection and one frame more, by each host. -/
namespace Go.Proofs.YtmagjekmlnpfpaaGreat.CompW
open Go.RowKit Shell
open CrewW (only has of has_any of_any mem)
open FrameW (CV rightC control_ok control_bad)
theorem ret_g {fn : Func} {R : Ending → World → Prop} {p : Tmp} (h : fn.results = #[.cell p 232]) {tmps : Array Value} {w : World} {g : Nat} {x0 x1 x2 x3 x4 x5 x6 x7 x8 x9 x10 x11 x12 x13 : Value} {t : TypeId} {fr : Nat × Nat}
    (hp : tmps.getD p undef = .pointer (some ⟨g, 0, none⟩)) (hg : w.heap[g]? = some (.cells #[x0, x1, x2, x3, x4, x5, x6, x7, x8, x9, x10, x11, x12, x13] t fr)) (hR : R (.returned (.agg #[x0, x1, x2, x3, x4, x5, x6, x7, x8, x9, x10, x11, x12, x13])) w) :
    bodyPost Tryz.prog fn R .ret { tmps := tmps, defers := [] } w :=
  bodyPost_ret (results_cell_row h tmps w g t _ fr _ hp hg Tryz.underlying232 rfl (by kernel_rfl)) rfl hR
theorem whole14 {w : World} {g : Nat} {v0 v1 v2 v3 v4 v5 v6 v7 v8 v9 v10 v11 v12 v13 : Value} {t : TypeId} (h : w.heap[g]? = some (.cells #[v0, v1, v2, v3, v4, v5, v6, v7, v8, v9, v10, v11, v12, v13] t (0, 0))) (u0 u1 u2 u3 u4 u5 u6 u7 u8 u9 u10 u11 u12 u13 : Value) : ((((((((((((((w.setCell ⟨g, 0, none⟩ u0).setCell ⟨g, 1, none⟩ u1).setCell ⟨g, 2, none⟩ u2).setCell ⟨g, 3, none⟩ u3).setCell ⟨g, 4, none⟩ u4).setCell ⟨g, 5, none⟩ u5).setCell ⟨g, 6, none⟩ u6).setCell ⟨g, 7, none⟩ u7).setCell ⟨g, 8, none⟩ u8).setCell ⟨g, 9, none⟩ u9).setCell ⟨g, 10, none⟩ u10).setCell ⟨g, 11, none⟩ u11).setCell ⟨g, 12, none⟩ u12).setCell ⟨g, 13, none⟩ u13).heap[g]? = some (.cells #[u0, u1, u2, u3, u4, u5, u6, u7, u8, u9, u10, u11, u12, u13] t (0, 0)) := by
  have h := heap_setCell_same w g 0 _ _ u0 h
  replace h : (w.setCell ⟨g, 0, none⟩ u0).heap[g]? = some (.cells #[u0, v1, v2, v3, v4, v5, v6, v7, v8, v9, v10, v11, v12, v13] t (0, 0)) := h
  have h := heap_setCell_same (w.setCell ⟨g, 0, none⟩ u0) g 1 _ _ u1 h
  replace h : ((w.setCell ⟨g, 0, none⟩ u0).setCell ⟨g, 1, none⟩ u1).heap[g]? = some (.cells #[u0, u1, v2, v3, v4, v5, v6, v7, v8, v9, v10, v11, v12, v13] t (0, 0)) := h
  have h := heap_setCell_same ((w.setCell ⟨g, 0, none⟩ u0).setCell ⟨g, 1, none⟩ u1) g 2 _ _ u2 h
  replace h : (((w.setCell ⟨g, 0, none⟩ u0).setCell ⟨g, 1, none⟩ u1).setCell ⟨g, 2, none⟩ u2).heap[g]? = some (.cells #[u0, u1, u2, v3, v4, v5, v6, v7, v8, v9, v10, v11, v12, v13] t (0, 0)) := h
  have h := heap_setCell_same (((w.setCell ⟨g, 0, none⟩ u0).setCell ⟨g, 1, none⟩ u1).setCell ⟨g, 2, none⟩ u2) g 3 _ _ u3 h
  replace h : ((((w.setCell ⟨g, 0, none⟩ u0).setCell ⟨g, 1, none⟩ u1).setCell ⟨g, 2, none⟩ u2).setCell ⟨g, 3, none⟩ u3).heap[g]? = some (.cells #[u0, u1, u2, u3, v4, v5, v6, v7, v8, v9, v10, v11, v12, v13] t (0, 0)) := h
  have h := heap_setCell_same ((((w.setCell ⟨g, 0, none⟩ u0).setCell ⟨g, 1, none⟩ u1).setCell ⟨g, 2, none⟩ u2).setCell ⟨g, 3, none⟩ u3) g 4 _ _ u4 h
  replace h : (((((w.setCell ⟨g, 0, none⟩ u0).setCell ⟨g, 1, none⟩ u1).setCell ⟨g, 2, none⟩ u2).setCell ⟨g, 3, none⟩ u3).setCell ⟨g, 4, none⟩ u4).heap[g]? = some (.cells #[u0, u1, u2, u3, u4, v5, v6, v7, v8, v9, v10, v11, v12, v13] t (0, 0)) := h
  have h := heap_setCell_same (((((w.setCell ⟨g, 0, none⟩ u0).setCell ⟨g, 1, none⟩ u1).setCell ⟨g, 2, none⟩ u2).setCell ⟨g, 3, none⟩ u3).setCell ⟨g, 4, none⟩ u4) g 5 _ _ u5 h
  replace h : ((((((w.setCell ⟨g, 0, none⟩ u0).setCell ⟨g, 1, none⟩ u1).setCell ⟨g, 2, none⟩ u2).setCell ⟨g, 3, none⟩ u3).setCell ⟨g, 4, none⟩ u4).setCell ⟨g, 5, none⟩ u5).heap[g]? = some (.cells #[u0, u1, u2, u3, u4, u5, v6, v7, v8, v9, v10, v11, v12, v13] t (0, 0)) := h
  have h := heap_setCell_same ((((((w.setCell ⟨g, 0, none⟩ u0).setCell ⟨g, 1, none⟩ u1).setCell ⟨g, 2, none⟩ u2).setCell ⟨g, 3, none⟩ u3).setCell ⟨g, 4, none⟩ u4).setCell ⟨g, 5, none⟩ u5) g 6 _ _ u6 h
  replace h : (((((((w.setCell ⟨g, 0, none⟩ u0).setCell ⟨g, 1, none⟩ u1).setCell ⟨g, 2, none⟩ u2).setCell ⟨g, 3, none⟩ u3).setCell ⟨g, 4, none⟩ u4).setCell ⟨g, 5, none⟩ u5).setCell ⟨g, 6, none⟩ u6).heap[g]? = some (.cells #[u0, u1, u2, u3, u4, u5, u6, v7, v8, v9, v10, v11, v12, v13] t (0, 0)) := h
  have h := heap_setCell_same (((((((w.setCell ⟨g, 0, none⟩ u0).setCell ⟨g, 1, none⟩ u1).setCell ⟨g, 2, none⟩ u2).setCell ⟨g, 3, none⟩ u3).setCell ⟨g, 4, none⟩ u4).setCell ⟨g, 5, none⟩ u5).setCell ⟨g, 6, none⟩ u6) g 7 _ _ u7 h
  replace h : ((((((((w.setCell ⟨g, 0, none⟩ u0).setCell ⟨g, 1, none⟩ u1).setCell ⟨g, 2, none⟩ u2).setCell ⟨g, 3, none⟩ u3).setCell ⟨g, 4, none⟩ u4).setCell ⟨g, 5, none⟩ u5).setCell ⟨g, 6, none⟩ u6).setCell ⟨g, 7, none⟩ u7).heap[g]? = some (.cells #[u0, u1, u2, u3, u4, u5, u6, u7, v8, v9, v10, v11, v12, v13] t (0, 0)) := h
  have h := heap_setCell_same ((((((((w.setCell ⟨g, 0, none⟩ u0).setCell ⟨g, 1, none⟩ u1).setCell ⟨g, 2, none⟩ u2).setCell ⟨g, 3, none⟩ u3).setCell ⟨g, 4, none⟩ u4).setCell ⟨g, 5, none⟩ u5).setCell ⟨g, 6, none⟩ u6).setCell ⟨g, 7, none⟩ u7) g 8 _ _ u8 h
  replace h : (((((((((w.setCell ⟨g, 0, none⟩ u0).setCell ⟨g, 1, none⟩ u1).setCell ⟨g, 2, none⟩ u2).setCell ⟨g, 3, none⟩ u3).setCell ⟨g, 4, none⟩ u4).setCell ⟨g, 5, none⟩ u5).setCell ⟨g, 6, none⟩ u6).setCell ⟨g, 7, none⟩ u7).setCell ⟨g, 8, none⟩ u8).heap[g]? = some (.cells #[u0, u1, u2, u3, u4, u5, u6, u7, u8, v9, v10, v11, v12, v13] t (0, 0)) := h
  have h := heap_setCell_same (((((((((w.setCell ⟨g, 0, none⟩ u0).setCell ⟨g, 1, none⟩ u1).setCell ⟨g, 2, none⟩ u2).setCell ⟨g, 3, none⟩ u3).setCell ⟨g, 4, none⟩ u4).setCell ⟨g, 5, none⟩ u5).setCell ⟨g, 6, none⟩ u6).setCell ⟨g, 7, none⟩ u7).setCell ⟨g, 8, none⟩ u8) g 9 _ _ u9 h
  replace h : ((((((((((w.setCell ⟨g, 0, none⟩ u0).setCell ⟨g, 1, none⟩ u1).setCell ⟨g, 2, none⟩ u2).setCell ⟨g, 3, none⟩ u3).setCell ⟨g, 4, none⟩ u4).setCell ⟨g, 5, none⟩ u5).setCell ⟨g, 6, none⟩ u6).setCell ⟨g, 7, none⟩ u7).setCell ⟨g, 8, none⟩ u8).setCell ⟨g, 9, none⟩ u9).heap[g]? = some (.cells #[u0, u1, u2, u3, u4, u5, u6, u7, u8, u9, v10, v11, v12, v13] t (0, 0)) := h
  have h := heap_setCell_same ((((((((((w.setCell ⟨g, 0, none⟩ u0).setCell ⟨g, 1, none⟩ u1).setCell ⟨g, 2, none⟩ u2).setCell ⟨g, 3, none⟩ u3).setCell ⟨g, 4, none⟩ u4).setCell ⟨g, 5, none⟩ u5).setCell ⟨g, 6, none⟩ u6).setCell ⟨g, 7, none⟩ u7).setCell ⟨g, 8, none⟩ u8).setCell ⟨g, 9, none⟩ u9) g 10 _ _ u10 h
  replace h : (((((((((((w.setCell ⟨g, 0, none⟩ u0).setCell ⟨g, 1, none⟩ u1).setCell ⟨g, 2, none⟩ u2).setCell ⟨g, 3, none⟩ u3).setCell ⟨g, 4, none⟩ u4).setCell ⟨g, 5, none⟩ u5).setCell ⟨g, 6, none⟩ u6).setCell ⟨g, 7, none⟩ u7).setCell ⟨g, 8, none⟩ u8).setCell ⟨g, 9, none⟩ u9).setCell ⟨g, 10, none⟩ u10).heap[g]? = some (.cells #[u0, u1, u2, u3, u4, u5, u6, u7, u8, u9, u10, v11, v12, v13] t (0, 0)) := h
  have h := heap_setCell_same (((((((((((w.setCell ⟨g, 0, none⟩ u0).setCell ⟨g, 1, none⟩ u1).setCell ⟨g, 2, none⟩ u2).setCell ⟨g, 3, none⟩ u3).setCell ⟨g, 4, none⟩ u4).setCell ⟨g, 5, none⟩ u5).setCell ⟨g, 6, none⟩ u6).setCell ⟨g, 7, none⟩ u7).setCell ⟨g, 8, none⟩ u8).setCell ⟨g, 9, none⟩ u9).setCell ⟨g, 10, none⟩ u10) g 11 _ _ u11 h
  replace h : ((((((((((((w.setCell ⟨g, 0, none⟩ u0).setCell ⟨g, 1, none⟩ u1).setCell ⟨g, 2, none⟩ u2).setCell ⟨g, 3, none⟩ u3).setCell ⟨g, 4, none⟩ u4).setCell ⟨g, 5, none⟩ u5).setCell ⟨g, 6, none⟩ u6).setCell ⟨g, 7, none⟩ u7).setCell ⟨g, 8, none⟩ u8).setCell ⟨g, 9, none⟩ u9).setCell ⟨g, 10, none⟩ u10).setCell ⟨g, 11, none⟩ u11).heap[g]? = some (.cells #[u0, u1, u2, u3, u4, u5, u6, u7, u8, u9, u10, u11, v12, v13] t (0, 0)) := h
  have h := heap_setCell_same ((((((((((((w.setCell ⟨g, 0, none⟩ u0).setCell ⟨g, 1, none⟩ u1).setCell ⟨g, 2, none⟩ u2).setCell ⟨g, 3, none⟩ u3).setCell ⟨g, 4, none⟩ u4).setCell ⟨g, 5, none⟩ u5).setCell ⟨g, 6, none⟩ u6).setCell ⟨g, 7, none⟩ u7).setCell ⟨g, 8, none⟩ u8).setCell ⟨g, 9, none⟩ u9).setCell ⟨g, 10, none⟩ u10).setCell ⟨g, 11, none⟩ u11) g 12 _ _ u12 h
  replace h : (((((((((((((w.setCell ⟨g, 0, none⟩ u0).setCell ⟨g, 1, none⟩ u1).setCell ⟨g, 2, none⟩ u2).setCell ⟨g, 3, none⟩ u3).setCell ⟨g, 4, none⟩ u4).setCell ⟨g, 5, none⟩ u5).setCell ⟨g, 6, none⟩ u6).setCell ⟨g, 7, none⟩ u7).setCell ⟨g, 8, none⟩ u8).setCell ⟨g, 9, none⟩ u9).setCell ⟨g, 10, none⟩ u10).setCell ⟨g, 11, none⟩ u11).setCell ⟨g, 12, none⟩ u12).heap[g]? = some (.cells #[u0, u1, u2, u3, u4, u5, u6, u7, u8, u9, u10, u11, u12, v13] t (0, 0)) := h
  have h := heap_setCell_same (((((((((((((w.setCell ⟨g, 0, none⟩ u0).setCell ⟨g, 1, none⟩ u1).setCell ⟨g, 2, none⟩ u2).setCell ⟨g, 3, none⟩ u3).setCell ⟨g, 4, none⟩ u4).setCell ⟨g, 5, none⟩ u5).setCell ⟨g, 6, none⟩ u6).setCell ⟨g, 7, none⟩ u7).setCell ⟨g, 8, none⟩ u8).setCell ⟨g, 9, none⟩ u9).setCell ⟨g, 10, none⟩ u10).setCell ⟨g, 11, none⟩ u11).setCell ⟨g, 12, none⟩ u12) g 13 _ _ u13 h
  replace h : ((((((((((((((w.setCell ⟨g, 0, none⟩ u0).setCell ⟨g, 1, none⟩ u1).setCell ⟨g, 2, none⟩ u2).setCell ⟨g, 3, none⟩ u3).setCell ⟨g, 4, none⟩ u4).setCell ⟨g, 5, none⟩ u5).setCell ⟨g, 6, none⟩ u6).setCell ⟨g, 7, none⟩ u7).setCell ⟨g, 8, none⟩ u8).setCell ⟨g, 9, none⟩ u9).setCell ⟨g, 10, none⟩ u10).setCell ⟨g, 11, none⟩ u11).setCell ⟨g, 12, none⟩ u12).setCell ⟨g, 13, none⟩ u13).heap[g]? = some (.cells #[u0, u1, u2, u3, u4, u5, u6, u7, u8, u9, u10, u11, u12, u13] t (0, 0)) := h
  exact h
theorem hold14 (w : World) (g : Nat) (u0 u1 u2 u3 u4 u5 u6 u7 u8 u9 u10 u11 u12 u13 : Value) : Kept g w ((((((((((((((w.setCell ⟨g, 0, none⟩ u0).setCell ⟨g, 1, none⟩ u1).setCell ⟨g, 2, none⟩ u2).setCell ⟨g, 3, none⟩ u3).setCell ⟨g, 4, none⟩ u4).setCell ⟨g, 5, none⟩ u5).setCell ⟨g, 6, none⟩ u6).setCell ⟨g, 7, none⟩ u7).setCell ⟨g, 8, none⟩ u8).setCell ⟨g, 9, none⟩ u9).setCell ⟨g, 10, none⟩ u10).setCell ⟨g, 11, none⟩ u11).setCell ⟨g, 12, none⟩ u12).setCell ⟨g, 13, none⟩ u13) :=
  (((((((((((((kept1 w g 0 u0).trans (kept1 _ g 1 u1)).trans (kept1 _ g 2 u2)).trans (kept1 _ g 3 u3)).trans (kept1 _ g 4 u4)).trans (kept1 _ g 5 u5)).trans (kept1 _ g 6 u6)).trans (kept1 _ g 7 u7)).trans (kept1 _ g 8 u8)).trans (kept1 _ g 9 u9)).trans (kept1 _ g 10 u10)).trans (kept1 _ g 11 u11)).trans (kept1 _ g 12 u12)).trans (kept1 _ g 13 u13)
set_option maxHeartbeats 2000000 in
theorem with_0 (b t y c l k : Int) (s : Nat) (R C : Nat → Int) (hs : s < 64) (ht : IntKind.i64.wrap (t - b) = t - b) (w : World) :
    Calls Tryz.prog 171 #[GV b s R C, .int .i64 t, CV k 0 y c l] w fun e w' => e = .returned (GV b (s ||| only 0) (upd R 0 (t - b)) (upd C 0 y)) ∧ Below w.heap.size w w' := by
  have HO := fun A W h => of_any A 1 1 [(0 : Int)] W h rfl (by decide)
  rw [CrewW.of_one] at HO
  have HB := Lib.hid (u32_or_nat s (only 0) (by omega) (by have := CrewW.only_lt 0; omega))
  generalize only 0 = o at *
  have HO := Lib.hid HO
  have X := (((Stay.start w).alloc (gbx b s R C)).alloc (cb k 0 y c l)).alloc gz
  simp only [World.size_alloc] at X
  have X := Lib.hid X
  go_enter Tryz.func171, Tryz.ntmps171
  go_upto_region 1 with (fail)
  generalize ((w.alloc (gbx b s R C)).alloc (cb k 0 y c l)).alloc gz = W at *
  generalize hg0 : w.heap.size = g0 at *
  have HG := Lib.hid hg0
  clear hg0
  obtain ⟨a0, a1, a2, a3, a4, a5, a6, a7, a8, a9, a10, a11, a12, a13⟩ := cells14 (X.out.at 2 rfl)
  obtain ⟨f0, f1, f2, f3, f4, f5, f6, f7, f8, f9, f10, f11, f12, f13⟩ := frozen14 (X.out.at 2 rfl)
  obtain ⟨d0, d1, d2, d3, d4⟩ := FrameW.cells5 (X.out.at 1 rfl)
  clear f0 f2 f3 f4 f5 f6 f7 f8 f9 f10 f11 f12 f13
  have e9 : bits BinOp.or IntKind.u32 (s : Int) (o : Int) = ((s ||| o : Nat) : Int) := HB.out
  clear a0 a2 a3 a4 a5 a6 a7 a8 a9 a10 a11 a12 a13 d0 d2 d3 d4
  have g9 := lt_of_heap (X.out.at 2 rfl)
  have k1 : (W.alloc (.cells #[.int .i64 0] 3)).cell? ⟨g0, 1, none⟩ = some (.int .u32 (s : Int)) := cell_keep a1 (al (Below.refl _ _) _)
  have k2 : (W.alloc (.cells #[.int .i64 0] 3)).frozen? ⟨g0, 1, none⟩ = false := ((al (Below.refl _ _) _).frozen g9).trans f1
  clear g9
  apply wp_one
  case h =>
    refine wp_region_noPanic ?_
    go_region_law (first | (go_at_call 180; refine (HO.out _ _ ?_).mono ?_; exact CrewW.one_cl W 0 (by decide) (by decide) _; rintro e w1 ⟨rfl, hw⟩; obtain rfl := hw.symm) | (go_simp; go_at_call 180; refine (HO.out _ _ ?_).mono ?_; exact CrewW.one_cl W 0 (by decide) (by decide) _; rintro e w1 ⟨rfl, hw⟩; obtain rfl := hw.symm))
    all_goals exact NoPanic.normal ⟨rfl, rfl, rfl⟩
  case hm =>
    clear a1 f1 d1 k1 k2 e9 HO HB
    have Y : Stay w [(g0, gbx b (s ||| o) R C), (g0 + 1 + 1, gz), (g0 + 1, cb k 0 y c l)] ((W.alloc (.cells #[.int .i64 0] 3)).setCell ⟨g0, 1, none⟩ (.int .u32 ((s ||| o : Nat) : Int))).drew := by
      have Y := ((X.out.alloc (.cells #[.int .i64 0] 3)).sub (M := [(g0, gbx b s R C), (g0 + 1 + 1, gz), (g0 + 1, cb k 0 y c l)]) (by simp))
      refine (Y.turn (kept1 _ g0 1 _) (heap_setCell_same _ g0 1 _ _ _ (Y.at 0 rfl)) (by have := HG.out; omega) ?_).drew
      intro x hx
      simp only [List.mem_cons, List.not_mem_nil, or_false] at hx
      rcases hx with rfl | rfl <;> (dsimp only; omega)
    have X := Lib.hid Y
    clear Y
    generalize ((W.alloc (.cells #[.int .i64 0] 3)).setCell ⟨g0, 1, none⟩ (.int .u32 ((s ||| o : Nat) : Int))).drew = W2 at *
    obtain ⟨a0, a1, a2, a3, a4, a5, a6, a7, a8, a9, a10, a11, a12, a13⟩ := cells14 (X.out.at 0 rfl)
    obtain ⟨f0, f1, f2, f3, f4, f5, f6, f7, f8, f9, f10, f11, f12, f13⟩ := frozen14 (X.out.at 0 rfl)
    obtain ⟨d0, d1, d2, d3, d4⟩ := FrameW.cells5 (X.out.at 2 rfl)
    clear f0 f1 f3 f4 f5 f6 f7 f8 f9 f10 f11 f12 f13
    go_upto_region 3 with (fail)
    have Y : Stay w [(g0, .cells #[.int .i64 b, .int .u32 ((s ||| o : Nat) : Int), .int .i64 (t - b), .int .i64 (R 1), .int .i64 (R 2), .int .i64 (R 3), .int .i64 (R 4), .int .i64 (R 5), .int .i64 (C 0), .int .i64 (C 1), .int .i64 (C 2), .int .i64 (C 3), .int .i64 (C 4), .int .i64 (C 5)] 232 (0, 0)), (g0 + 1 + 1, gz), (g0 + 1, cb k 0 y c l)] (W2.setCell ⟨g0, 2, none⟩ (.int .i64 (t - b))) := by
      refine (X.out.turn (kept1 _ g0 2 _) (heap_setCell_same _ g0 2 _ _ _ (X.out.at 0 rfl)) (by have := HG.out; omega) ?_)
      intro x hx
      simp only [List.mem_cons, List.not_mem_nil, or_false] at hx
      rcases hx with rfl | rfl <;> (dsimp only; omega)
    clear a0 a1 a2 a3 a4 a5 a6 a7 a8 a9 a10 a11 a12 a13 d0 d1 d2 d3 d4 f2 X
    have X := Lib.hid Y
    clear Y
    generalize W2.setCell ⟨g0, 2, none⟩ (.int .i64 (t - b)) = W3 at *
    obtain ⟨a0, a1, a2, a3, a4, a5, a6, a7, a8, a9, a10, a11, a12, a13⟩ := cells14 (X.out.at 0 rfl)
    obtain ⟨f0, f1, f2, f3, f4, f5, f6, f7, f8, f9, f10, f11, f12, f13⟩ := frozen14 (X.out.at 0 rfl)
    obtain ⟨d0, d1, d2, d3, d4⟩ := FrameW.cells5 (X.out.at 2 rfl)
    clear f0 f1 f2 f3 f4 f5 f6 f7 f9 f10 f11 f12 f13
    go_upto_region 4 with (fail)
    have Y : Stay w [(g0, .cells #[.int .i64 b, .int .u32 ((s ||| o : Nat) : Int), .int .i64 (t - b), .int .i64 (R 1), .int .i64 (R 2), .int .i64 (R 3), .int .i64 (R 4), .int .i64 (R 5), .int .i64 y, .int .i64 (C 1), .int .i64 (C 2), .int .i64 (C 3), .int .i64 (C 4), .int .i64 (C 5)] 232 (0, 0)), (g0 + 1 + 1, gz), (g0 + 1, cb k 0 y c l)] (W3.setCell ⟨g0, 8, none⟩ (.int .i64 y)) := by
      refine (X.out.turn (kept1 _ g0 8 _) (heap_setCell_same _ g0 8 _ _ _ (X.out.at 0 rfl)) (by have := HG.out; omega) ?_)
      intro x hx
      simp only [List.mem_cons, List.not_mem_nil, or_false] at hx
      rcases hx with rfl | rfl <;> (dsimp only; omega)
    clear a0 a1 a2 a3 a4 a5 a6 a7 a8 a9 a10 a11 a12 a13 d0 d1 d2 d3 d4 f8 X
    have X := Lib.hid Y
    clear Y
    generalize W3.setCell ⟨g0, 8, none⟩ (.int .i64 y) = W4 at *
    obtain ⟨a0, a1, a2, a3, a4, a5, a6, a7, a8, a9, a10, a11, a12, a13⟩ := cells14 (X.out.at 0 rfl)
    obtain ⟨z0, z1, z2, z3, z4, z5, z6, z7, z8, z9, z10, z11, z12, z13⟩ := cells14 (X.out.at 1 rfl)
    obtain ⟨f0, f1, f2, f3, f4, f5, f6, f7, f8, f9, f10, f11, f12, f13⟩ := frozen14 (X.out.at 1 rfl)
    go_wp2
    refine ret_g rfl rfl (whole14 (X.out.at 1 rfl) _ _ _ _ _ _ _ _ _ _ _ _ _ _) ⟨?_, X.out.b.trans ((hold14 W4 (g0 + 1 + 1) _ _ _ _ _ _ _ _ _ _ _ _ _ _).below (by have := HG.out; omega) X.out.b.size)⟩
    rfl
set_option maxHeartbeats 2000000 in
theorem with_1 (b t y c l k : Int) (s : Nat) (R C : Nat → Int) (hs : s < 64) (ht : IntKind.i64.wrap (t - b) = t - b) (w : World) :
    Calls Tryz.prog 171 #[GV b s R C, .int .i64 t, CV k 1 y c l] w fun e w' => e = .returned (GV b (s ||| only 1) (upd R 1 (t - b)) (upd C 1 y)) ∧ Below w.heap.size w w' := by
  have HO := fun A W h => of_any A 1 1 [(1 : Int)] W h rfl (by decide)
  rw [CrewW.of_one] at HO
  have HB := Lib.hid (u32_or_nat s (only 1) (by omega) (by have := CrewW.only_lt 1; omega))
  generalize only 1 = o at *
  have HO := Lib.hid HO
  have X := (((Stay.start w).alloc (gbx b s R C)).alloc (cb k 1 y c l)).alloc gz
  simp only [World.size_alloc] at X
  have X := Lib.hid X
  go_enter Tryz.func171, Tryz.ntmps171
  go_upto_region 1 with (fail)
  generalize ((w.alloc (gbx b s R C)).alloc (cb k 1 y c l)).alloc gz = W at *
  generalize hg0 : w.heap.size = g0 at *
  have HG := Lib.hid hg0
  clear hg0
  obtain ⟨a0, a1, a2, a3, a4, a5, a6, a7, a8, a9, a10, a11, a12, a13⟩ := cells14 (X.out.at 2 rfl)
  obtain ⟨f0, f1, f2, f3, f4, f5, f6, f7, f8, f9, f10, f11, f12, f13⟩ := frozen14 (X.out.at 2 rfl)
  obtain ⟨d0, d1, d2, d3, d4⟩ := FrameW.cells5 (X.out.at 1 rfl)
  clear f0 f2 f3 f4 f5 f6 f7 f8 f9 f10 f11 f12 f13
  have e9 : bits BinOp.or IntKind.u32 (s : Int) (o : Int) = ((s ||| o : Nat) : Int) := HB.out
  clear a0 a2 a3 a4 a5 a6 a7 a8 a9 a10 a11 a12 a13 d0 d2 d3 d4
  have g9 := lt_of_heap (X.out.at 2 rfl)
  have k1 : (W.alloc (.cells #[.int .i64 1] 3)).cell? ⟨g0, 1, none⟩ = some (.int .u32 (s : Int)) := cell_keep a1 (al (Below.refl _ _) _)
  have k2 : (W.alloc (.cells #[.int .i64 1] 3)).frozen? ⟨g0, 1, none⟩ = false := ((al (Below.refl _ _) _).frozen g9).trans f1
  clear g9
  apply wp_one
  case h =>
    refine wp_region_noPanic ?_
    go_region_law (first | (go_at_call 180; refine (HO.out _ _ ?_).mono ?_; exact CrewW.one_cl W 1 (by decide) (by decide) _; rintro e w1 ⟨rfl, hw⟩; obtain rfl := hw.symm) | (go_simp; go_at_call 180; refine (HO.out _ _ ?_).mono ?_; exact CrewW.one_cl W 1 (by decide) (by decide) _; rintro e w1 ⟨rfl, hw⟩; obtain rfl := hw.symm))
    all_goals exact NoPanic.normal ⟨rfl, rfl, rfl⟩
  case hm =>
    clear a1 f1 d1 k1 k2 e9 HO HB
    have Y : Stay w [(g0, gbx b (s ||| o) R C), (g0 + 1 + 1, gz), (g0 + 1, cb k 1 y c l)] ((W.alloc (.cells #[.int .i64 1] 3)).setCell ⟨g0, 1, none⟩ (.int .u32 ((s ||| o : Nat) : Int))).drew := by
      have Y := ((X.out.alloc (.cells #[.int .i64 1] 3)).sub (M := [(g0, gbx b s R C), (g0 + 1 + 1, gz), (g0 + 1, cb k 1 y c l)]) (by simp))
      refine (Y.turn (kept1 _ g0 1 _) (heap_setCell_same _ g0 1 _ _ _ (Y.at 0 rfl)) (by have := HG.out; omega) ?_).drew
      intro x hx
      simp only [List.mem_cons, List.not_mem_nil, or_false] at hx
      rcases hx with rfl | rfl <;> (dsimp only; omega)
    have X := Lib.hid Y
    clear Y
    generalize ((W.alloc (.cells #[.int .i64 1] 3)).setCell ⟨g0, 1, none⟩ (.int .u32 ((s ||| o : Nat) : Int))).drew = W2 at *
    obtain ⟨a0, a1, a2, a3, a4, a5, a6, a7, a8, a9, a10, a11, a12, a13⟩ := cells14 (X.out.at 0 rfl)
    obtain ⟨f0, f1, f2, f3, f4, f5, f6, f7, f8, f9, f10, f11, f12, f13⟩ := frozen14 (X.out.at 0 rfl)
    obtain ⟨d0, d1, d2, d3, d4⟩ := FrameW.cells5 (X.out.at 2 rfl)
    clear f0 f1 f2 f4 f5 f6 f7 f8 f9 f10 f11 f12 f13
    go_upto_region 3 with (fail)
    have Y : Stay w [(g0, .cells #[.int .i64 b, .int .u32 ((s ||| o : Nat) : Int), .int .i64 (R 0), .int .i64 (t - b), .int .i64 (R 2), .int .i64 (R 3), .int .i64 (R 4), .int .i64 (R 5), .int .i64 (C 0), .int .i64 (C 1), .int .i64 (C 2), .int .i64 (C 3), .int .i64 (C 4), .int .i64 (C 5)] 232 (0, 0)), (g0 + 1 + 1, gz), (g0 + 1, cb k 1 y c l)] (W2.setCell ⟨g0, 3, none⟩ (.int .i64 (t - b))) := by
      refine (X.out.turn (kept1 _ g0 3 _) (heap_setCell_same _ g0 3 _ _ _ (X.out.at 0 rfl)) (by have := HG.out; omega) ?_)
      intro x hx
      simp only [List.mem_cons, List.not_mem_nil, or_false] at hx
      rcases hx with rfl | rfl <;> (dsimp only; omega)
    clear a0 a1 a2 a3 a4 a5 a6 a7 a8 a9 a10 a11 a12 a13 d0 d1 d2 d3 d4 f3 X
    have X := Lib.hid Y
    clear Y
    generalize W2.setCell ⟨g0, 3, none⟩ (.int .i64 (t - b)) = W3 at *
    obtain ⟨a0, a1, a2, a3, a4, a5, a6, a7, a8, a9, a10, a11, a12, a13⟩ := cells14 (X.out.at 0 rfl)
    obtain ⟨f0, f1, f2, f3, f4, f5, f6, f7, f8, f9, f10, f11, f12, f13⟩ := frozen14 (X.out.at 0 rfl)
    obtain ⟨d0, d1, d2, d3, d4⟩ := FrameW.cells5 (X.out.at 2 rfl)
    clear f0 f1 f2 f3 f4 f5 f6 f7 f8 f10 f11 f12 f13
    go_upto_region 4 with (fail)
    have Y : Stay w [(g0, .cells #[.int .i64 b, .int .u32 ((s ||| o : Nat) : Int), .int .i64 (R 0), .int .i64 (t - b), .int .i64 (R 2), .int .i64 (R 3), .int .i64 (R 4), .int .i64 (R 5), .int .i64 (C 0), .int .i64 y, .int .i64 (C 2), .int .i64 (C 3), .int .i64 (C 4), .int .i64 (C 5)] 232 (0, 0)), (g0 + 1 + 1, gz), (g0 + 1, cb k 1 y c l)] (W3.setCell ⟨g0, 9, none⟩ (.int .i64 y)) := by
      refine (X.out.turn (kept1 _ g0 9 _) (heap_setCell_same _ g0 9 _ _ _ (X.out.at 0 rfl)) (by have := HG.out; omega) ?_)
      intro x hx
      simp only [List.mem_cons, List.not_mem_nil, or_false] at hx
      rcases hx with rfl | rfl <;> (dsimp only; omega)
    clear a0 a1 a2 a3 a4 a5 a6 a7 a8 a9 a10 a11 a12 a13 d0 d1 d2 d3 d4 f9 X
    have X := Lib.hid Y
    clear Y
    generalize W3.setCell ⟨g0, 9, none⟩ (.int .i64 y) = W4 at *
    obtain ⟨a0, a1, a2, a3, a4, a5, a6, a7, a8, a9, a10, a11, a12, a13⟩ := cells14 (X.out.at 0 rfl)
    obtain ⟨z0, z1, z2, z3, z4, z5, z6, z7, z8, z9, z10, z11, z12, z13⟩ := cells14 (X.out.at 1 rfl)
    obtain ⟨f0, f1, f2, f3, f4, f5, f6, f7, f8, f9, f10, f11, f12, f13⟩ := frozen14 (X.out.at 1 rfl)
    go_wp2
    refine ret_g rfl rfl (whole14 (X.out.at 1 rfl) _ _ _ _ _ _ _ _ _ _ _ _ _ _) ⟨?_, X.out.b.trans ((hold14 W4 (g0 + 1 + 1) _ _ _ _ _ _ _ _ _ _ _ _ _ _).below (by have := HG.out; omega) X.out.b.size)⟩
    rfl
set_option maxHeartbeats 2000000 in
theorem with_2 (b t y c l k : Int) (s : Nat) (R C : Nat → Int) (hs : s < 64) (ht : IntKind.i64.wrap (t - b) = t - b) (w : World) :
    Calls Tryz.prog 171 #[GV b s R C, .int .i64 t, CV k 2 y c l] w fun e w' => e = .returned (GV b (s ||| only 2) (upd R 2 (t - b)) (upd C 2 y)) ∧ Below w.heap.size w w' := by
  have HO := fun A W h => of_any A 1 1 [(2 : Int)] W h rfl (by decide)
  rw [CrewW.of_one] at HO
  have HB := Lib.hid (u32_or_nat s (only 2) (by omega) (by have := CrewW.only_lt 2; omega))
  generalize only 2 = o at *
  have HO := Lib.hid HO
  have X := (((Stay.start w).alloc (gbx b s R C)).alloc (cb k 2 y c l)).alloc gz
  simp only [World.size_alloc] at X
  have X := Lib.hid X
  go_enter Tryz.func171, Tryz.ntmps171
  go_upto_region 1 with (fail)
  generalize ((w.alloc (gbx b s R C)).alloc (cb k 2 y c l)).alloc gz = W at *
  generalize hg0 : w.heap.size = g0 at *
  have HG := Lib.hid hg0
  clear hg0
  obtain ⟨a0, a1, a2, a3, a4, a5, a6, a7, a8, a9, a10, a11, a12, a13⟩ := cells14 (X.out.at 2 rfl)
  obtain ⟨f0, f1, f2, f3, f4, f5, f6, f7, f8, f9, f10, f11, f12, f13⟩ := frozen14 (X.out.at 2 rfl)
  obtain ⟨d0, d1, d2, d3, d4⟩ := FrameW.cells5 (X.out.at 1 rfl)
  clear f0 f2 f3 f4 f5 f6 f7 f8 f9 f10 f11 f12 f13
  have e9 : bits BinOp.or IntKind.u32 (s : Int) (o : Int) = ((s ||| o : Nat) : Int) := HB.out
  clear a0 a2 a3 a4 a5 a6 a7 a8 a9 a10 a11 a12 a13 d0 d2 d3 d4
  have g9 := lt_of_heap (X.out.at 2 rfl)
  have k1 : (W.alloc (.cells #[.int .i64 2] 3)).cell? ⟨g0, 1, none⟩ = some (.int .u32 (s : Int)) := cell_keep a1 (al (Below.refl _ _) _)
  have k2 : (W.alloc (.cells #[.int .i64 2] 3)).frozen? ⟨g0, 1, none⟩ = false := ((al (Below.refl _ _) _).frozen g9).trans f1
  clear g9
  apply wp_one
  case h =>
    refine wp_region_noPanic ?_
    go_region_law (first | (go_at_call 180; refine (HO.out _ _ ?_).mono ?_; exact CrewW.one_cl W 2 (by decide) (by decide) _; rintro e w1 ⟨rfl, hw⟩; obtain rfl := hw.symm) | (go_simp; go_at_call 180; refine (HO.out _ _ ?_).mono ?_; exact CrewW.one_cl W 2 (by decide) (by decide) _; rintro e w1 ⟨rfl, hw⟩; obtain rfl := hw.symm))
    all_goals exact NoPanic.normal ⟨rfl, rfl, rfl⟩
  case hm =>
    clear a1 f1 d1 k1 k2 e9 HO HB
    have Y : Stay w [(g0, gbx b (s ||| o) R C), (g0 + 1 + 1, gz), (g0 + 1, cb k 2 y c l)] ((W.alloc (.cells #[.int .i64 2] 3)).setCell ⟨g0, 1, none⟩ (.int .u32 ((s ||| o : Nat) : Int))).drew := by
      have Y := ((X.out.alloc (.cells #[.int .i64 2] 3)).sub (M := [(g0, gbx b s R C), (g0 + 1 + 1, gz), (g0 + 1, cb k 2 y c l)]) (by simp))
      refine (Y.turn (kept1 _ g0 1 _) (heap_setCell_same _ g0 1 _ _ _ (Y.at 0 rfl)) (by have := HG.out; omega) ?_).drew
      intro x hx
      simp only [List.mem_cons, List.not_mem_nil, or_false] at hx
      rcases hx with rfl | rfl <;> (dsimp only; omega)
    have X := Lib.hid Y
    clear Y
    generalize ((W.alloc (.cells #[.int .i64 2] 3)).setCell ⟨g0, 1, none⟩ (.int .u32 ((s ||| o : Nat) : Int))).drew = W2 at *
    obtain ⟨a0, a1, a2, a3, a4, a5, a6, a7, a8, a9, a10, a11, a12, a13⟩ := cells14 (X.out.at 0 rfl)
    obtain ⟨f0, f1, f2, f3, f4, f5, f6, f7, f8, f9, f10, f11, f12, f13⟩ := frozen14 (X.out.at 0 rfl)
    obtain ⟨d0, d1, d2, d3, d4⟩ := FrameW.cells5 (X.out.at 2 rfl)
    clear f0 f1 f2 f3 f5 f6 f7 f8 f9 f10 f11 f12 f13
    go_upto_region 3 with (fail)
    have Y : Stay w [(g0, .cells #[.int .i64 b, .int .u32 ((s ||| o : Nat) : Int), .int .i64 (R 0), .int .i64 (R 1), .int .i64 (t - b), .int .i64 (R 3), .int .i64 (R 4), .int .i64 (R 5), .int .i64 (C 0), .int .i64 (C 1), .int .i64 (C 2), .int .i64 (C 3), .int .i64 (C 4), .int .i64 (C 5)] 232 (0, 0)), (g0 + 1 + 1, gz), (g0 + 1, cb k 2 y c l)] (W2.setCell ⟨g0, 4, none⟩ (.int .i64 (t - b))) := by
      refine (X.out.turn (kept1 _ g0 4 _) (heap_setCell_same _ g0 4 _ _ _ (X.out.at 0 rfl)) (by have := HG.out; omega) ?_)
      intro x hx
      simp only [List.mem_cons, List.not_mem_nil, or_false] at hx
      rcases hx with rfl | rfl <;> (dsimp only; omega)
    clear a0 a1 a2 a3 a4 a5 a6 a7 a8 a9 a10 a11 a12 a13 d0 d1 d2 d3 d4 f4 X
    have X := Lib.hid Y
    clear Y
    generalize W2.setCell ⟨g0, 4, none⟩ (.int .i64 (t - b)) = W3 at *
    obtain ⟨a0, a1, a2, a3, a4, a5, a6, a7, a8, a9, a10, a11, a12, a13⟩ := cells14 (X.out.at 0 rfl)
    obtain ⟨f0, f1, f2, f3, f4, f5, f6, f7, f8, f9, f10, f11, f12, f13⟩ := frozen14 (X.out.at 0 rfl)
    obtain ⟨d0, d1, d2, d3, d4⟩ := FrameW.cells5 (X.out.at 2 rfl)
    clear f0 f1 f2 f3 f4 f5 f6 f7 f8 f9 f11 f12 f13
    go_upto_region 4 with (fail)
    have Y : Stay w [(g0, .cells #[.int .i64 b, .int .u32 ((s ||| o : Nat) : Int), .int .i64 (R 0), .int .i64 (R 1), .int .i64 (t - b), .int .i64 (R 3), .int .i64 (R 4), .int .i64 (R 5), .int .i64 (C 0), .int .i64 (C 1), .int .i64 y, .int .i64 (C 3), .int .i64 (C 4), .int .i64 (C 5)] 232 (0, 0)), (g0 + 1 + 1, gz), (g0 + 1, cb k 2 y c l)] (W3.setCell ⟨g0, 10, none⟩ (.int .i64 y)) := by
      refine (X.out.turn (kept1 _ g0 10 _) (heap_setCell_same _ g0 10 _ _ _ (X.out.at 0 rfl)) (by have := HG.out; omega) ?_)
      intro x hx
      simp only [List.mem_cons, List.not_mem_nil, or_false] at hx
      rcases hx with rfl | rfl <;> (dsimp only; omega)
    clear a0 a1 a2 a3 a4 a5 a6 a7 a8 a9 a10 a11 a12 a13 d0 d1 d2 d3 d4 f10 X
    have X := Lib.hid Y
    clear Y
    generalize W3.setCell ⟨g0, 10, none⟩ (.int .i64 y) = W4 at *
    obtain ⟨a0, a1, a2, a3, a4, a5, a6, a7, a8, a9, a10, a11, a12, a13⟩ := cells14 (X.out.at 0 rfl)
    obtain ⟨z0, z1, z2, z3, z4, z5, z6, z7, z8, z9, z10, z11, z12, z13⟩ := cells14 (X.out.at 1 rfl)
    obtain ⟨f0, f1, f2, f3, f4, f5, f6, f7, f8, f9, f10, f11, f12, f13⟩ := frozen14 (X.out.at 1 rfl)
    go_wp2
    refine ret_g rfl rfl (whole14 (X.out.at 1 rfl) _ _ _ _ _ _ _ _ _ _ _ _ _ _) ⟨?_, X.out.b.trans ((hold14 W4 (g0 + 1 + 1) _ _ _ _ _ _ _ _ _ _ _ _ _ _).below (by have := HG.out; omega) X.out.b.size)⟩
    rfl
set_option maxHeartbeats 2000000 in
theorem with_3 (b t y c l k : Int) (s : Nat) (R C : Nat → Int) (hs : s < 64) (ht : IntKind.i64.wrap (t - b) = t - b) (w : World) :
    Calls Tryz.prog 171 #[GV b s R C, .int .i64 t, CV k 3 y c l] w fun e w' => e = .returned (GV b (s ||| only 3) (upd R 3 (t - b)) (upd C 3 y)) ∧ Below w.heap.size w w' := by
  have HO := fun A W h => of_any A 1 1 [(3 : Int)] W h rfl (by decide)
  rw [CrewW.of_one] at HO
  have HB := Lib.hid (u32_or_nat s (only 3) (by omega) (by have := CrewW.only_lt 3; omega))
  generalize only 3 = o at *
  have HO := Lib.hid HO
  have X := (((Stay.start w).alloc (gbx b s R C)).alloc (cb k 3 y c l)).alloc gz
  simp only [World.size_alloc] at X
  have X := Lib.hid X
  go_enter Tryz.func171, Tryz.ntmps171
  go_upto_region 1 with (fail)
  generalize ((w.alloc (gbx b s R C)).alloc (cb k 3 y c l)).alloc gz = W at *
  generalize hg0 : w.heap.size = g0 at *
  have HG := Lib.hid hg0
  clear hg0
  obtain ⟨a0, a1, a2, a3, a4, a5, a6, a7, a8, a9, a10, a11, a12, a13⟩ := cells14 (X.out.at 2 rfl)
  obtain ⟨f0, f1, f2, f3, f4, f5, f6, f7, f8, f9, f10, f11, f12, f13⟩ := frozen14 (X.out.at 2 rfl)
  obtain ⟨d0, d1, d2, d3, d4⟩ := FrameW.cells5 (X.out.at 1 rfl)
  clear f0 f2 f3 f4 f5 f6 f7 f8 f9 f10 f11 f12 f13
  have e9 : bits BinOp.or IntKind.u32 (s : Int) (o : Int) = ((s ||| o : Nat) : Int) := HB.out
  clear a0 a2 a3 a4 a5 a6 a7 a8 a9 a10 a11 a12 a13 d0 d2 d3 d4
  have g9 := lt_of_heap (X.out.at 2 rfl)
  have k1 : (W.alloc (.cells #[.int .i64 3] 3)).cell? ⟨g0, 1, none⟩ = some (.int .u32 (s : Int)) := cell_keep a1 (al (Below.refl _ _) _)
  have k2 : (W.alloc (.cells #[.int .i64 3] 3)).frozen? ⟨g0, 1, none⟩ = false := ((al (Below.refl _ _) _).frozen g9).trans f1
  clear g9
  apply wp_one
  case h =>
    refine wp_region_noPanic ?_
    go_region_law (first | (go_at_call 180; refine (HO.out _ _ ?_).mono ?_; exact CrewW.one_cl W 3 (by decide) (by decide) _; rintro e w1 ⟨rfl, hw⟩; obtain rfl := hw.symm) | (go_simp; go_at_call 180; refine (HO.out _ _ ?_).mono ?_; exact CrewW.one_cl W 3 (by decide) (by decide) _; rintro e w1 ⟨rfl, hw⟩; obtain rfl := hw.symm))
    all_goals exact NoPanic.normal ⟨rfl, rfl, rfl⟩
  case hm =>
    clear a1 f1 d1 k1 k2 e9 HO HB
    have Y : Stay w [(g0, gbx b (s ||| o) R C), (g0 + 1 + 1, gz), (g0 + 1, cb k 3 y c l)] ((W.alloc (.cells #[.int .i64 3] 3)).setCell ⟨g0, 1, none⟩ (.int .u32 ((s ||| o : Nat) : Int))).drew := by
      have Y := ((X.out.alloc (.cells #[.int .i64 3] 3)).sub (M := [(g0, gbx b s R C), (g0 + 1 + 1, gz), (g0 + 1, cb k 3 y c l)]) (by simp))
      refine (Y.turn (kept1 _ g0 1 _) (heap_setCell_same _ g0 1 _ _ _ (Y.at 0 rfl)) (by have := HG.out; omega) ?_).drew
      intro x hx
      simp only [List.mem_cons, List.not_mem_nil, or_false] at hx
      rcases hx with rfl | rfl <;> (dsimp only; omega)
    have X := Lib.hid Y
    clear Y
    generalize ((W.alloc (.cells #[.int .i64 3] 3)).setCell ⟨g0, 1, none⟩ (.int .u32 ((s ||| o : Nat) : Int))).drew = W2 at *
    obtain ⟨a0, a1, a2, a3, a4, a5, a6, a7, a8, a9, a10, a11, a12, a13⟩ := cells14 (X.out.at 0 rfl)
    obtain ⟨f0, f1, f2, f3, f4, f5, f6, f7, f8, f9, f10, f11, f12, f13⟩ := frozen14 (X.out.at 0 rfl)
    obtain ⟨d0, d1, d2, d3, d4⟩ := FrameW.cells5 (X.out.at 2 rfl)
    clear f0 f1 f2 f3 f4 f6 f7 f8 f9 f10 f11 f12 f13
    go_upto_region 3 with (fail)
    have Y : Stay w [(g0, .cells #[.int .i64 b, .int .u32 ((s ||| o : Nat) : Int), .int .i64 (R 0), .int .i64 (R 1), .int .i64 (R 2), .int .i64 (t - b), .int .i64 (R 4), .int .i64 (R 5), .int .i64 (C 0), .int .i64 (C 1), .int .i64 (C 2), .int .i64 (C 3), .int .i64 (C 4), .int .i64 (C 5)] 232 (0, 0)), (g0 + 1 + 1, gz), (g0 + 1, cb k 3 y c l)] (W2.setCell ⟨g0, 5, none⟩ (.int .i64 (t - b))) := by
      refine (X.out.turn (kept1 _ g0 5 _) (heap_setCell_same _ g0 5 _ _ _ (X.out.at 0 rfl)) (by have := HG.out; omega) ?_)
      intro x hx
      simp only [List.mem_cons, List.not_mem_nil, or_false] at hx
      rcases hx with rfl | rfl <;> (dsimp only; omega)
    clear a0 a1 a2 a3 a4 a5 a6 a7 a8 a9 a10 a11 a12 a13 d0 d1 d2 d3 d4 f5 X
    have X := Lib.hid Y
    clear Y
    generalize W2.setCell ⟨g0, 5, none⟩ (.int .i64 (t - b)) = W3 at *
    obtain ⟨a0, a1, a2, a3, a4, a5, a6, a7, a8, a9, a10, a11, a12, a13⟩ := cells14 (X.out.at 0 rfl)
    obtain ⟨f0, f1, f2, f3, f4, f5, f6, f7, f8, f9, f10, f11, f12, f13⟩ := frozen14 (X.out.at 0 rfl)
    obtain ⟨d0, d1, d2, d3, d4⟩ := FrameW.cells5 (X.out.at 2 rfl)
    clear f0 f1 f2 f3 f4 f5 f6 f7 f8 f9 f10 f12 f13
    go_upto_region 4 with (fail)
    have Y : Stay w [(g0, .cells #[.int .i64 b, .int .u32 ((s ||| o : Nat) : Int), .int .i64 (R 0), .int .i64 (R 1), .int .i64 (R 2), .int .i64 (t - b), .int .i64 (R 4), .int .i64 (R 5), .int .i64 (C 0), .int .i64 (C 1), .int .i64 (C 2), .int .i64 y, .int .i64 (C 4), .int .i64 (C 5)] 232 (0, 0)), (g0 + 1 + 1, gz), (g0 + 1, cb k 3 y c l)] (W3.setCell ⟨g0, 11, none⟩ (.int .i64 y)) := by
      refine (X.out.turn (kept1 _ g0 11 _) (heap_setCell_same _ g0 11 _ _ _ (X.out.at 0 rfl)) (by have := HG.out; omega) ?_)
      intro x hx
      simp only [List.mem_cons, List.not_mem_nil, or_false] at hx
      rcases hx with rfl | rfl <;> (dsimp only; omega)
    clear a0 a1 a2 a3 a4 a5 a6 a7 a8 a9 a10 a11 a12 a13 d0 d1 d2 d3 d4 f11 X
    have X := Lib.hid Y
    clear Y
    generalize W3.setCell ⟨g0, 11, none⟩ (.int .i64 y) = W4 at *
    obtain ⟨a0, a1, a2, a3, a4, a5, a6, a7, a8, a9, a10, a11, a12, a13⟩ := cells14 (X.out.at 0 rfl)
    obtain ⟨z0, z1, z2, z3, z4, z5, z6, z7, z8, z9, z10, z11, z12, z13⟩ := cells14 (X.out.at 1 rfl)
    obtain ⟨f0, f1, f2, f3, f4, f5, f6, f7, f8, f9, f10, f11, f12, f13⟩ := frozen14 (X.out.at 1 rfl)
    go_wp2
    refine ret_g rfl rfl (whole14 (X.out.at 1 rfl) _ _ _ _ _ _ _ _ _ _ _ _ _ _) ⟨?_, X.out.b.trans ((hold14 W4 (g0 + 1 + 1) _ _ _ _ _ _ _ _ _ _ _ _ _ _).below (by have := HG.out; omega) X.out.b.size)⟩
    rfl
set_option maxHeartbeats 2000000 in
theorem with_4 (b t y c l k : Int) (s : Nat) (R C : Nat → Int) (hs : s < 64) (ht : IntKind.i64.wrap (t - b) = t - b) (w : World) :
    Calls Tryz.prog 171 #[GV b s R C, .int .i64 t, CV k 4 y c l] w fun e w' => e = .returned (GV b (s ||| only 4) (upd R 4 (t - b)) (upd C 4 y)) ∧ Below w.heap.size w w' := by
  have HO := fun A W h => of_any A 1 1 [(4 : Int)] W h rfl (by decide)
  rw [CrewW.of_one] at HO
  have HB := Lib.hid (u32_or_nat s (only 4) (by omega) (by have := CrewW.only_lt 4; omega))
  generalize only 4 = o at *
  have HO := Lib.hid HO
  have X := (((Stay.start w).alloc (gbx b s R C)).alloc (cb k 4 y c l)).alloc gz
  simp only [World.size_alloc] at X
  have X := Lib.hid X
  go_enter Tryz.func171, Tryz.ntmps171
  go_upto_region 1 with (fail)
  generalize ((w.alloc (gbx b s R C)).alloc (cb k 4 y c l)).alloc gz = W at *
  generalize hg0 : w.heap.size = g0 at *
  have HG := Lib.hid hg0
  clear hg0
  obtain ⟨a0, a1, a2, a3, a4, a5, a6, a7, a8, a9, a10, a11, a12, a13⟩ := cells14 (X.out.at 2 rfl)
  obtain ⟨f0, f1, f2, f3, f4, f5, f6, f7, f8, f9, f10, f11, f12, f13⟩ := frozen14 (X.out.at 2 rfl)
  obtain ⟨d0, d1, d2, d3, d4⟩ := FrameW.cells5 (X.out.at 1 rfl)
  clear f0 f2 f3 f4 f5 f6 f7 f8 f9 f10 f11 f12 f13
  have e9 : bits BinOp.or IntKind.u32 (s : Int) (o : Int) = ((s ||| o : Nat) : Int) := HB.out
  clear a0 a2 a3 a4 a5 a6 a7 a8 a9 a10 a11 a12 a13 d0 d2 d3 d4
  have g9 := lt_of_heap (X.out.at 2 rfl)
  have k1 : (W.alloc (.cells #[.int .i64 4] 3)).cell? ⟨g0, 1, none⟩ = some (.int .u32 (s : Int)) := cell_keep a1 (al (Below.refl _ _) _)
  have k2 : (W.alloc (.cells #[.int .i64 4] 3)).frozen? ⟨g0, 1, none⟩ = false := ((al (Below.refl _ _) _).frozen g9).trans f1
  clear g9
  apply wp_one
  case h =>
    refine wp_region_noPanic ?_
    go_region_law (first | (go_at_call 180; refine (HO.out _ _ ?_).mono ?_; exact CrewW.one_cl W 4 (by decide) (by decide) _; rintro e w1 ⟨rfl, hw⟩; obtain rfl := hw.symm) | (go_simp; go_at_call 180; refine (HO.out _ _ ?_).mono ?_; exact CrewW.one_cl W 4 (by decide) (by decide) _; rintro e w1 ⟨rfl, hw⟩; obtain rfl := hw.symm))
    all_goals exact NoPanic.normal ⟨rfl, rfl, rfl⟩
  case hm =>
    clear a1 f1 d1 k1 k2 e9 HO HB
    have Y : Stay w [(g0, gbx b (s ||| o) R C), (g0 + 1 + 1, gz), (g0 + 1, cb k 4 y c l)] ((W.alloc (.cells #[.int .i64 4] 3)).setCell ⟨g0, 1, none⟩ (.int .u32 ((s ||| o : Nat) : Int))).drew := by
      have Y := ((X.out.alloc (.cells #[.int .i64 4] 3)).sub (M := [(g0, gbx b s R C), (g0 + 1 + 1, gz), (g0 + 1, cb k 4 y c l)]) (by simp))
      refine (Y.turn (kept1 _ g0 1 _) (heap_setCell_same _ g0 1 _ _ _ (Y.at 0 rfl)) (by have := HG.out; omega) ?_).drew
      intro x hx
      simp only [List.mem_cons, List.not_mem_nil, or_false] at hx
      rcases hx with rfl | rfl <;> (dsimp only; omega)
    have X := Lib.hid Y
    clear Y
    generalize ((W.alloc (.cells #[.int .i64 4] 3)).setCell ⟨g0, 1, none⟩ (.int .u32 ((s ||| o : Nat) : Int))).drew = W2 at *
    obtain ⟨a0, a1, a2, a3, a4, a5, a6, a7, a8, a9, a10, a11, a12, a13⟩ := cells14 (X.out.at 0 rfl)
    obtain ⟨f0, f1, f2, f3, f4, f5, f6, f7, f8, f9, f10, f11, f12, f13⟩ := frozen14 (X.out.at 0 rfl)
    obtain ⟨d0, d1, d2, d3, d4⟩ := FrameW.cells5 (X.out.at 2 rfl)
    clear f0 f1 f2 f3 f4 f5 f7 f8 f9 f10 f11 f12 f13
    go_upto_region 3 with (fail)
    have Y : Stay w [(g0, .cells #[.int .i64 b, .int .u32 ((s ||| o : Nat) : Int), .int .i64 (R 0), .int .i64 (R 1), .int .i64 (R 2), .int .i64 (R 3), .int .i64 (t - b), .int .i64 (R 5), .int .i64 (C 0), .int .i64 (C 1), .int .i64 (C 2), .int .i64 (C 3), .int .i64 (C 4), .int .i64 (C 5)] 232 (0, 0)), (g0 + 1 + 1, gz), (g0 + 1, cb k 4 y c l)] (W2.setCell ⟨g0, 6, none⟩ (.int .i64 (t - b))) := by
      refine (X.out.turn (kept1 _ g0 6 _) (heap_setCell_same _ g0 6 _ _ _ (X.out.at 0 rfl)) (by have := HG.out; omega) ?_)
      intro x hx
      simp only [List.mem_cons, List.not_mem_nil, or_false] at hx
      rcases hx with rfl | rfl <;> (dsimp only; omega)
    clear a0 a1 a2 a3 a4 a5 a6 a7 a8 a9 a10 a11 a12 a13 d0 d1 d2 d3 d4 f6 X
    have X := Lib.hid Y
    clear Y
    generalize W2.setCell ⟨g0, 6, none⟩ (.int .i64 (t - b)) = W3 at *
    obtain ⟨a0, a1, a2, a3, a4, a5, a6, a7, a8, a9, a10, a11, a12, a13⟩ := cells14 (X.out.at 0 rfl)
    obtain ⟨f0, f1, f2, f3, f4, f5, f6, f7, f8, f9, f10, f11, f12, f13⟩ := frozen14 (X.out.at 0 rfl)
    obtain ⟨d0, d1, d2, d3, d4⟩ := FrameW.cells5 (X.out.at 2 rfl)
    clear f0 f1 f2 f3 f4 f5 f6 f7 f8 f9 f10 f11 f13
    go_upto_region 4 with (fail)
    have Y : Stay w [(g0, .cells #[.int .i64 b, .int .u32 ((s ||| o : Nat) : Int), .int .i64 (R 0), .int .i64 (R 1), .int .i64 (R 2), .int .i64 (R 3), .int .i64 (t - b), .int .i64 (R 5), .int .i64 (C 0), .int .i64 (C 1), .int .i64 (C 2), .int .i64 (C 3), .int .i64 y, .int .i64 (C 5)] 232 (0, 0)), (g0 + 1 + 1, gz), (g0 + 1, cb k 4 y c l)] (W3.setCell ⟨g0, 12, none⟩ (.int .i64 y)) := by
      refine (X.out.turn (kept1 _ g0 12 _) (heap_setCell_same _ g0 12 _ _ _ (X.out.at 0 rfl)) (by have := HG.out; omega) ?_)
      intro x hx
      simp only [List.mem_cons, List.not_mem_nil, or_false] at hx
      rcases hx with rfl | rfl <;> (dsimp only; omega)
    clear a0 a1 a2 a3 a4 a5 a6 a7 a8 a9 a10 a11 a12 a13 d0 d1 d2 d3 d4 f12 X
    have X := Lib.hid Y
    clear Y
    generalize W3.setCell ⟨g0, 12, none⟩ (.int .i64 y) = W4 at *
    obtain ⟨a0, a1, a2, a3, a4, a5, a6, a7, a8, a9, a10, a11, a12, a13⟩ := cells14 (X.out.at 0 rfl)
    obtain ⟨z0, z1, z2, z3, z4, z5, z6, z7, z8, z9, z10, z11, z12, z13⟩ := cells14 (X.out.at 1 rfl)
    obtain ⟨f0, f1, f2, f3, f4, f5, f6, f7, f8, f9, f10, f11, f12, f13⟩ := frozen14 (X.out.at 1 rfl)
    go_wp2
    refine ret_g rfl rfl (whole14 (X.out.at 1 rfl) _ _ _ _ _ _ _ _ _ _ _ _ _ _) ⟨?_, X.out.b.trans ((hold14 W4 (g0 + 1 + 1) _ _ _ _ _ _ _ _ _ _ _ _ _ _).below (by have := HG.out; omega) X.out.b.size)⟩
    rfl
set_option maxHeartbeats 2000000 in
theorem with_5 (b t y c l k : Int) (s : Nat) (R C : Nat → Int) (hs : s < 64) (ht : IntKind.i64.wrap (t - b) = t - b) (w : World) :
    Calls Tryz.prog 171 #[GV b s R C, .int .i64 t, CV k 5 y c l] w fun e w' => e = .returned (GV b (s ||| only 5) (upd R 5 (t - b)) (upd C 5 y)) ∧ Below w.heap.size w w' := by
  have HO := fun A W h => of_any A 1 1 [(5 : Int)] W h rfl (by decide)
  rw [CrewW.of_one] at HO
  have HB := Lib.hid (u32_or_nat s (only 5) (by omega) (by have := CrewW.only_lt 5; omega))
  generalize only 5 = o at *
  have HO := Lib.hid HO
  have X := (((Stay.start w).alloc (gbx b s R C)).alloc (cb k 5 y c l)).alloc gz
  simp only [World.size_alloc] at X
  have X := Lib.hid X
  go_enter Tryz.func171, Tryz.ntmps171
  go_upto_region 1 with (fail)
  generalize ((w.alloc (gbx b s R C)).alloc (cb k 5 y c l)).alloc gz = W at *
  generalize hg0 : w.heap.size = g0 at *
  have HG := Lib.hid hg0
  clear hg0
  obtain ⟨a0, a1, a2, a3, a4, a5, a6, a7, a8, a9, a10, a11, a12, a13⟩ := cells14 (X.out.at 2 rfl)
  obtain ⟨f0, f1, f2, f3, f4, f5, f6, f7, f8, f9, f10, f11, f12, f13⟩ := frozen14 (X.out.at 2 rfl)
  obtain ⟨d0, d1, d2, d3, d4⟩ := FrameW.cells5 (X.out.at 1 rfl)
  clear f0 f2 f3 f4 f5 f6 f7 f8 f9 f10 f11 f12 f13
  have e9 : bits BinOp.or IntKind.u32 (s : Int) (o : Int) = ((s ||| o : Nat) : Int) := HB.out
  clear a0 a2 a3 a4 a5 a6 a7 a8 a9 a10 a11 a12 a13 d0 d2 d3 d4
  have g9 := lt_of_heap (X.out.at 2 rfl)
  have k1 : (W.alloc (.cells #[.int .i64 5] 3)).cell? ⟨g0, 1, none⟩ = some (.int .u32 (s : Int)) := cell_keep a1 (al (Below.refl _ _) _)
  have k2 : (W.alloc (.cells #[.int .i64 5] 3)).frozen? ⟨g0, 1, none⟩ = false := ((al (Below.refl _ _) _).frozen g9).trans f1
  clear g9
  apply wp_one
  case h =>
    refine wp_region_noPanic ?_
    go_region_law (first | (go_at_call 180; refine (HO.out _ _ ?_).mono ?_; exact CrewW.one_cl W 5 (by decide) (by decide) _; rintro e w1 ⟨rfl, hw⟩; obtain rfl := hw.symm) | (go_simp; go_at_call 180; refine (HO.out _ _ ?_).mono ?_; exact CrewW.one_cl W 5 (by decide) (by decide) _; rintro e w1 ⟨rfl, hw⟩; obtain rfl := hw.symm))
    all_goals exact NoPanic.normal ⟨rfl, rfl, rfl⟩
  case hm =>
    clear a1 f1 d1 k1 k2 e9 HO HB
    have Y : Stay w [(g0, gbx b (s ||| o) R C), (g0 + 1 + 1, gz), (g0 + 1, cb k 5 y c l)] ((W.alloc (.cells #[.int .i64 5] 3)).setCell ⟨g0, 1, none⟩ (.int .u32 ((s ||| o : Nat) : Int))).drew := by
      have Y := ((X.out.alloc (.cells #[.int .i64 5] 3)).sub (M := [(g0, gbx b s R C), (g0 + 1 + 1, gz), (g0 + 1, cb k 5 y c l)]) (by simp))
      refine (Y.turn (kept1 _ g0 1 _) (heap_setCell_same _ g0 1 _ _ _ (Y.at 0 rfl)) (by have := HG.out; omega) ?_).drew
      intro x hx
      simp only [List.mem_cons, List.not_mem_nil, or_false] at hx
      rcases hx with rfl | rfl <;> (dsimp only; omega)
    have X := Lib.hid Y
    clear Y
    generalize ((W.alloc (.cells #[.int .i64 5] 3)).setCell ⟨g0, 1, none⟩ (.int .u32 ((s ||| o : Nat) : Int))).drew = W2 at *
    obtain ⟨a0, a1, a2, a3, a4, a5, a6, a7, a8, a9, a10, a11, a12, a13⟩ := cells14 (X.out.at 0 rfl)
    obtain ⟨f0, f1, f2, f3, f4, f5, f6, f7, f8, f9, f10, f11, f12, f13⟩ := frozen14 (X.out.at 0 rfl)
    obtain ⟨d0, d1, d2, d3, d4⟩ := FrameW.cells5 (X.out.at 2 rfl)
    clear f0 f1 f2 f3 f4 f5 f6 f8 f9 f10 f11 f12 f13
    go_upto_region 3 with (fail)
    have Y : Stay w [(g0, .cells #[.int .i64 b, .int .u32 ((s ||| o : Nat) : Int), .int .i64 (R 0), .int .i64 (R 1), .int .i64 (R 2), .int .i64 (R 3), .int .i64 (R 4), .int .i64 (t - b), .int .i64 (C 0), .int .i64 (C 1), .int .i64 (C 2), .int .i64 (C 3), .int .i64 (C 4), .int .i64 (C 5)] 232 (0, 0)), (g0 + 1 + 1, gz), (g0 + 1, cb k 5 y c l)] (W2.setCell ⟨g0, 7, none⟩ (.int .i64 (t - b))) := by
      refine (X.out.turn (kept1 _ g0 7 _) (heap_setCell_same _ g0 7 _ _ _ (X.out.at 0 rfl)) (by have := HG.out; omega) ?_)
      intro x hx
      simp only [List.mem_cons, List.not_mem_nil, or_false] at hx
      rcases hx with rfl | rfl <;> (dsimp only; omega)
    clear a0 a1 a2 a3 a4 a5 a6 a7 a8 a9 a10 a11 a12 a13 d0 d1 d2 d3 d4 f7 X
    have X := Lib.hid Y
    clear Y
    generalize W2.setCell ⟨g0, 7, none⟩ (.int .i64 (t - b)) = W3 at *
    obtain ⟨a0, a1, a2, a3, a4, a5, a6, a7, a8, a9, a10, a11, a12, a13⟩ := cells14 (X.out.at 0 rfl)
    obtain ⟨f0, f1, f2, f3, f4, f5, f6, f7, f8, f9, f10, f11, f12, f13⟩ := frozen14 (X.out.at 0 rfl)
    obtain ⟨d0, d1, d2, d3, d4⟩ := FrameW.cells5 (X.out.at 2 rfl)
    clear f0 f1 f2 f3 f4 f5 f6 f7 f8 f9 f10 f11 f12
    go_upto_region 4 with (fail)
    have Y : Stay w [(g0, .cells #[.int .i64 b, .int .u32 ((s ||| o : Nat) : Int), .int .i64 (R 0), .int .i64 (R 1), .int .i64 (R 2), .int .i64 (R 3), .int .i64 (R 4), .int .i64 (t - b), .int .i64 (C 0), .int .i64 (C 1), .int .i64 (C 2), .int .i64 (C 3), .int .i64 (C 4), .int .i64 y] 232 (0, 0)), (g0 + 1 + 1, gz), (g0 + 1, cb k 5 y c l)] (W3.setCell ⟨g0, 13, none⟩ (.int .i64 y)) := by
      refine (X.out.turn (kept1 _ g0 13 _) (heap_setCell_same _ g0 13 _ _ _ (X.out.at 0 rfl)) (by have := HG.out; omega) ?_)
      intro x hx
      simp only [List.mem_cons, List.not_mem_nil, or_false] at hx
      rcases hx with rfl | rfl <;> (dsimp only; omega)
    clear a0 a1 a2 a3 a4 a5 a6 a7 a8 a9 a10 a11 a12 a13 d0 d1 d2 d3 d4 f13 X
    have X := Lib.hid Y
    clear Y
    generalize W3.setCell ⟨g0, 13, none⟩ (.int .i64 y) = W4 at *
    obtain ⟨a0, a1, a2, a3, a4, a5, a6, a7, a8, a9, a10, a11, a12, a13⟩ := cells14 (X.out.at 0 rfl)
    obtain ⟨z0, z1, z2, z3, z4, z5, z6, z7, z8, z9, z10, z11, z12, z13⟩ := cells14 (X.out.at 1 rfl)
    obtain ⟨f0, f1, f2, f3, f4, f5, f6, f7, f8, f9, f10, f11, f12, f13⟩ := frozen14 (X.out.at 1 rfl)
    go_wp2
    refine ret_g rfl rfl (whole14 (X.out.at 1 rfl) _ _ _ _ _ _ _ _ _ _ _ _ _ _) ⟨?_, X.out.b.trans ((hold14 W4 (g0 + 1 + 1) _ _ _ _ _ _ _ _ _ _ _ _ _ _).below (by have := HG.out; omega) X.out.b.size)⟩
    rfl
/-- A collection and one frame more. -/
theorem with_any (b t y c l k : Int) (f s : Nat) (R C : Nat → Int) (hf : f < 6) (hs : s < 64) (ht : IntKind.i64.wrap (t - b) = t - b) (w : World) :
    Calls Tryz.prog 171 #[GV b s R C, .int .i64 t, CV k (f : Int) y c l] w fun e w' => e = .returned (GV b (s ||| only (f : Int)) (upd R f (t - b)) (upd C f y)) ∧ Below w.heap.size w w' := by
  match f, hf with
  | 0, _ => exact with_0 b t y c l k s R C hs ht w
  | 1, _ => exact with_1 b t y c l k s R C hs ht w
  | 2, _ => exact with_2 b t y c l k s R C hs ht w
  | 3, _ => exact with_3 b t y c l k s R C hs ht w
  | 4, _ => exact with_4 b t y c l k s R C hs ht w
  | 5, _ => exact with_5 b t y c l k s R C hs ht w
end Go.Proofs.YtmagjekmlnpfpaaGreat.CompW



/- Add, where it refuses. -/
namespace Go.Proofs.YtmagjekmlnpfpaaGreat.CompW
open Go.RowKit Shell
open CrewW (only has of has_any of_any mem mem_len memTo_range members_any)
open FrameW (CV rightC)
set_option maxHeartbeats 1000000 in
theorem add_arg (a : Addr) (t k f y c l : Int) (hc : 0 ≤ c) (h : okL t = false ∨ okH k f y c l = false) (w : World) : Calls Tryz.prog 139 #[.pointer (some a), .int .i64 t, CV k f y c l] w fun e w' => e = .returned (.tuple #[.int .i64 0, .int .i64 1]) ∧ Below w.heap.size w w' := by
  have X0 := Lib.hid (heap_alloc_new w (cb k f y c l))
  cases ht : okL t with
  | false =>
    clear h
    go_enter Tryz.func139, Tryz.ntmps139
    go_wp2_with (go_at_call 167; refine (isLocal_any _ _).mono ?_; rintro e w' ⟨rfl, hw⟩; obtain rfl := hw.symm; rw [ht])
    go_ret2
    exact ⟨rfl, al (Below.refl _ _) _⟩
  | true =>
    have hh : okH k f y c l = false := by rcases h with h | h
                                          · rw [ht] at h; cases h
                                          · exact h
    have HH := Lib.hid (fun W => isHosts_any k f y c l hc W)
    rw [hh] at HH
    clear h
    obtain ⟨d0, d1, d2, d3, d4⟩ := FrameW.cells5 X0.out
    go_enter Tryz.func139, Tryz.ntmps139
    go_wp2_with (first | (go_at_call 167; refine (isLocal_any _ _).mono ?_; rintro e w' ⟨rfl, hw⟩; obtain rfl := hw.symm; rw [ht]) | (go_at_call 168; refine (HH.out _).mono ?_; rintro e w1 ⟨rfl, b1⟩; have B1 := Lib.hid b1; clear b1))
    go_ret2
    exact ⟨rfl, (al (Below.refl _ _) _).trans (B1.out.mono (by simp))⟩
/-- A call at an open collection. -/
theorem add_low {w : World} {g : Nat} {d b : Int} {s : Nat} {R C : Nat → Int} (h : w.heap[g]? = some (pbx d b s R C)) (hs : s ≠ 0) (hb0 : -1125899906842624 ≤ b ∧ b ≤ 1125899906842624) (hd0 : 0 ≤ d ∧ d ≤ 1048576) (t k f y c l : Int) (hc : 0 ≤ c) (ht : okL t = true) (hh : okH k f y c l = true) (hr : t < b) :
    Calls Tryz.prog 139 #[.pointer (some ⟨g, 0, none⟩), .int .i64 t, CV k f y c l] w fun e w' => e = .returned (.tuple #[.int .i64 0, .int .i64 4]) ∧ Below w.heap.size w w' := by
  have e0 : decide (s ≠ 0) = true := decide_eq_true hs
  have HH := Lib.hid (fun W => isHosts_any k f y c l hc W)
  rw [hh] at HH
  have O := Lib.hid (fun W (hb : Below w.heap.size w W) => open_any (row_below hb h))
  rw [e0] at O
  have E := Lib.hid (fun W (hb : Below w.heap.size w W) => end_any (row_below hb h) hb0 hd0)
  have X := Lib.hid (((Stay.start w).add h).alloc (cb k f y c l))
  obtain ⟨d0, d1, d2, d3, d4⟩ := FrameW.cells5 (X.out.at 0 rfl)
  have e1 : IntKind.i64.wrap (b + d) = b + d := by rw [IntKind.wrap_i64]; omega
  clear hs hh e0
  go_enter Tryz.func139, Tryz.ntmps139
  go_wp2_with (first
    | (go_at_call 167; refine (isLocal_any _ _).mono ?_; rintro e w' ⟨rfl, hw⟩; obtain rfl := hw.symm; rw [ht])
    | (go_at_call 168; refine (HH.out _).mono ?_; rintro e w1 ⟨rfl, b1⟩; have X1 := Lib.hid (X.out.next b1); obtain ⟨a0, a1, a2, a3, a4, a5, a6, a7, a8, a9, a10, a11, a12, a13, a14⟩ := cells15 (X1.out.at 1 rfl); clear b1)
    | (go_at_call 169; refine (O.out _ X1.out.b).mono ?_; rintro e w' ⟨rfl, hw⟩; obtain rfl := hw.symm))
  go_ret2
  exact ⟨rfl, X1.out.b⟩
theorem add_high {w : World} {g : Nat} {d b : Int} {s : Nat} {R C : Nat → Int} (h : w.heap[g]? = some (pbx d b s R C)) (hs : s ≠ 0) (hb0 : -1125899906842624 ≤ b ∧ b ≤ 1125899906842624) (hd0 : 0 ≤ d ∧ d ≤ 1048576) (t k f y c l : Int) (hc : 0 ≤ c) (ht : okL t = true) (hh : okH k f y c l = true) (hr : ¬ t < b) (hr2 : b + d < t) :
    Calls Tryz.prog 139 #[.pointer (some ⟨g, 0, none⟩), .int .i64 t, CV k f y c l] w fun e w' => e = .returned (.tuple #[.int .i64 0, .int .i64 4]) ∧ Below w.heap.size w w' := by
  have e0 : decide (s ≠ 0) = true := decide_eq_true hs
  have HH := Lib.hid (fun W => isHosts_any k f y c l hc W)
  rw [hh] at HH
  have O := Lib.hid (fun W (hb : Below w.heap.size w W) => open_any (row_below hb h))
  rw [e0] at O
  have E := Lib.hid (fun W (hb : Below w.heap.size w W) => end_any (row_below hb h) hb0 hd0)
  have X := Lib.hid (((Stay.start w).add h).alloc (cb k f y c l))
  obtain ⟨d0, d1, d2, d3, d4⟩ := FrameW.cells5 (X.out.at 0 rfl)
  have e1 : IntKind.i64.wrap (b + d) = b + d := by rw [IntKind.wrap_i64]; omega
  clear hs hh e0
  go_enter Tryz.func139, Tryz.ntmps139
  go_wp2_with (first
    | (go_at_call 167; refine (isLocal_any _ _).mono ?_; rintro e w' ⟨rfl, hw⟩; obtain rfl := hw.symm; rw [ht])
    | (go_at_call 168; refine (HH.out _).mono ?_; rintro e w1 ⟨rfl, b1⟩; have X1 := Lib.hid (X.out.next b1); obtain ⟨a0, a1, a2, a3, a4, a5, a6, a7, a8, a9, a10, a11, a12, a13, a14⟩ := cells15 (X1.out.at 1 rfl); clear b1)
    | (go_at_call 169; refine (O.out _ X1.out.b).mono ?_; rintro e w' ⟨rfl, hw⟩; obtain rfl := hw.symm)
    | (go_at_call 170; refine (E.out _ X1.out.b).mono ?_; rintro e w2 ⟨rfl, b2⟩; have X2 := Lib.hid (X1.out.next b2); clear b2))
  go_ret2
  exact ⟨rfl, X2.out.b⟩
end Go.Proofs.YtmagjekmlnpfpaaGreat.CompW



/- Add, where the frame is taken: into an open collection, and into a new one. -/
namespace Go.Proofs.YtmagjekmlnpfpaaGreat.CompW
open Go.RowKit Shell
open CrewW (only has of has_any of_any mem mem_len memTo_range members_any)
open FrameW (CV rightC)
set_option maxHeartbeats 2000000 in
/-- A frame more in an open collection. -/
theorem add_in {w : World} {g : Nat} {d b : Int} {s : Nat} {R C : Nat → Int} (h : w.heap[g]? = some (pbx d b s R C)) (hs : s ≠ 0) (hs2 : s < 64) (hb0 : -1125899906842624 ≤ b ∧ b ≤ 1125899906842624) (hd0 : 0 ≤ d ∧ d ≤ 1048576) (t k : Int) (f : Nat) (y c l : Int) (hc : 0 ≤ c) (ht : okL t = true) (hh : okH k f y c l = true) (hr : ¬ t < b) (hr2 : ¬ b + d < t) (hf : has s f = false) (hf6 : f < 6) :
    Calls Tryz.prog 139 #[.pointer (some ⟨g, 0, none⟩), .int .i64 t, CV k f y c l] w fun e w' => e = .returned (.tuple #[.int .i64 (b + d), .int .i64 0]) ∧ w'.heap[g]? = some (pbx d b (s ||| only (f : Int)) (upd R f (t - b)) (upd C f y)) ∧ Kept g w w' := by
  have F := Lib.hid (fun W => has_any s f W (by omega))
  rw [hf] at F
  have WI := fun W => with_any b t y c l k f s R C hf6 hs2 (by rw [IntKind.wrap_i64]; have := okL_iff.1 ht; omega) W
  unfold GV at WI
  have WI := Lib.hid WI
  have e0 : decide (s ≠ 0) = true := decide_eq_true hs
  have HH := Lib.hid (fun W => isHosts_any k f y c l hc W)
  rw [hh] at HH
  have O := Lib.hid (fun W (hb : Below w.heap.size w W) => open_any (row_below hb h))
  rw [e0] at O
  have E := Lib.hid (fun W (hb : Below w.heap.size w W) => end_any (row_below hb h) hb0 hd0)
  have E2 := Lib.hid (fun W h => end_any (w := W) (g := g) (d := d) (b := b) (s := s ||| only (f : Int)) (R := upd R f (t - b)) (C := upd C f y) h hb0 hd0)
  have GL := Lib.hid (lt_of_heap h)
  have X := Lib.hid (((Stay.start w).add h).alloc (cb k f y c l))
  obtain ⟨d0, d1, d2, d3, d4⟩ := FrameW.cells5 (X.out.at 0 rfl)
  have e1 : IntKind.i64.wrap (b + d) = b + d := by rw [IntKind.wrap_i64]; omega
  clear hs hh e0 hs2 hf
  go_enter Tryz.func139, Tryz.ntmps139
  go_upto_region 7 with (first
    | (go_at_call 167; refine (isLocal_any _ _).mono ?_; rintro e w' ⟨rfl, hw⟩; obtain rfl := hw.symm; rw [ht])
    | (go_at_call 168; refine (HH.out _).mono ?_; rintro e w1 ⟨rfl, b1⟩; have X1 := Lib.hid (X.out.next b1); obtain ⟨a0, a1, a2, a3, a4, a5, a6, a7, a8, a9, a10, a11, a12, a13, a14⟩ := cells15 (X1.out.at 1 rfl); clear b1)
    | (go_at_call 169; refine (O.out _ X1.out.b).mono ?_; rintro e w' ⟨rfl, hw⟩; obtain rfl := hw)
    | (go_at_call 170; refine (E.out _ X1.out.b).mono ?_; rintro e w2 ⟨rfl, b2⟩; have X2 := Lib.hid (X1.out.next b2); clear b2))
  clear a0 a1 a2 a3 a4 a5 a6 a7 a8 a9 a10 a11 a12 a13 a14 d0 d1 d2 d3 d4
  obtain ⟨a0, a1, a2, a3, a4, a5, a6, a7, a8, a9, a10, a11, a12, a13, a14⟩ := cells15 (X2.out.at 1 rfl)
  obtain ⟨d0, d1, d2, d3, d4⟩ := FrameW.cells5 (X2.out.at 0 rfl)
  apply wp_one
  case h =>
    refine wp_region_noPanic ?_
    go_region_law (first | (go_at_call 86; refine (F.out _).mono ?_; rintro e w' ⟨rfl, hw⟩; obtain rfl := hw.symm) | (go_simp; go_at_call 86; refine (F.out _).mono ?_; rintro e w' ⟨rfl, hw⟩; obtain rfl := hw.symm))
    all_goals exact NoPanic.normal ⟨rfl, rfl, rfl⟩
  case hm =>
  have X3 := Lib.hid X2.out.drew
  generalize w2.drew = w3 at *
  go_upto_region 9 with (fail)
  clear a0 a1 a2 a3 a4 a5 a6 a7 a8 a9 a10 a11 a12 a13 a14 d0 d1 d2 d3 d4
  obtain ⟨a0, a1, a2, a3, a4, a5, a6, a7, a8, a9, a10, a11, a12, a13, a14⟩ := cells15 (X3.out.at 1 rfl)
  obtain ⟨d0, d1, d2, d3, d4⟩ := FrameW.cells5 (X3.out.at 0 rfl)
  have kp : Hid (Kept g w w3) := Lib.hid (Kept.of X3.out.b)
  apply wp_some (S := fun w' => w'.heap[g]? = some (pbx d b (s ||| only (f : Int)) (upd R f (t - b)) (upd C f y)) ∧ Kept g w w')
  case h =>
    refine wp_region_noPanic ?_
    go_region_law (first
      | (go_at_call 171; refine (WI.out _).mono ?_; rintro e w8 ⟨rfl, b8⟩; have h8 := row_below b8 (X3.out.at 1 rfl); obtain ⟨p0, p1, p2, p3, p4, p5, p6, p7, p8, p9, p10, p11, p12, p13, p14⟩ := cells15 h8; obtain ⟨f0, f1, f2, f3, f4, f5, f6, f7, f8, f9, f10, f11, f12, f13, f14⟩ := frozen15 h8; have H8 := Lib.hid h8; have B8 := Lib.hid b8; clear h8 b8)
      | (go_simp; go_at_call 171; refine (WI.out _).mono ?_; rintro e w8 ⟨rfl, b8⟩; have h8 := row_below b8 (X3.out.at 1 rfl); obtain ⟨p0, p1, p2, p3, p4, p5, p6, p7, p8, p9, p10, p11, p12, p13, p14⟩ := cells15 h8; obtain ⟨f0, f1, f2, f3, f4, f5, f6, f7, f8, f9, f10, f11, f12, f13, f14⟩ := frozen15 h8; have H8 := Lib.hid h8; have B8 := Lib.hid b8; clear h8 b8))
    all_goals exact NoPanic.normal ⟨rfl, rfl, put14 H8.out _ _ _ _ _ _ _ _ _ _ _ _ _ _ , (kp.out.trans (Kept.of (show Below w3.heap.size w3 _ from ⟨B8.out.os, B8.out.tape, B8.out.output, B8.out.size, B8.out.block⟩))).trans (keep14 _ g _ _ _ _ _ _ _ _ _ _ _ _ _ _ )⟩
  case hm =>
  rintro w9 ⟨h9, k9⟩
  have H9 := Lib.hid h9
  have K9 := Lib.hid k9
  clear a0 a1 a2 a3 a4 a5 a6 a7 a8 a9 a10 a11 a12 a13 a14 d0 d1 d2 d3 d4 h9 k9
  go_wp2_with (go_at_call 170; refine (E2.out _ H9.out).mono ?_; rintro e w10 ⟨rfl, b10⟩; have B10 := Lib.hid b10; clear b10)
  go_ret2
  exact ⟨rfl, row_below B10.out H9.out, K9.out.trans (Kept.of B10.out)⟩
set_option maxHeartbeats 2000000 in
/-- The first frame of a new collection. -/
theorem add_new {w : World} {g : Nat} {d b : Int} {R C : Nat → Int} (h : w.heap[g]? = some (pbx d b 0 R C)) (hd0 : 0 ≤ d ∧ d ≤ 1048576) (t k : Int) (f : Nat) (y c l : Int) (hc : 0 ≤ c) (ht : okL t = true) (hh : okH k f y c l = true) (hf6 : f < 6) :
    Calls Tryz.prog 139 #[.pointer (some ⟨g, 0, none⟩), .int .i64 t, CV k f y c l] w fun e w' => e = .returned (.tuple #[.int .i64 (t + d), .int .i64 0]) ∧ w'.heap[g]? = some (pbx d t (0 ||| only (f : Int)) (upd zero f 0) (upd zero f y)) ∧ Kept g w w' := by
  have hb0 := okL_iff.1 ht
  obtain ⟨s, hs⟩ : ∃ s : Nat, s = 0 := ⟨_, rfl⟩
  obtain ⟨Z, hZ⟩ : ∃ Z, Z = zero := ⟨_, rfl⟩
  have WI := fun W => with_any t t y c l k f s Z Z hf6 (by omega) (by rw [IntKind.wrap_i64]; omega) W
  simp only [Int.sub_self] at WI
  unfold GV at WI
  have WI := Lib.hid WI
  have e0 : decide ((0 : Nat) ≠ 0) = false := by decide
  have HH := Lib.hid (fun W => isHosts_any k f y c l hc W)
  rw [hh] at HH
  have O := Lib.hid (fun W (hb : Below w.heap.size w W) => open_any (row_below hb h))
  rw [e0] at O
  have E2 := Lib.hid (fun W h => end_any (w := W) (g := g) (d := d) (b := t) (s := s ||| only (f : Int)) (R := upd Z f 0) (C := upd Z f y) h hb0 hd0)
  have GL := Lib.hid (lt_of_heap h)
  have X := Lib.hid (((Stay.start w).add h).alloc (cb k f y c l))
  obtain ⟨d0, d1, d2, d3, d4⟩ := FrameW.cells5 (X.out.at 0 rfl)
  have e1 : IntKind.i64.wrap (t + d) = t + d := by rw [IntKind.wrap_i64]; omega
  clear hh e0 hb0
  go_enter Tryz.func139, Tryz.ntmps139
  go_upto_region 4 with (first
    | (go_at_call 167; refine (isLocal_any _ _).mono ?_; rintro e w' ⟨rfl, hw⟩; obtain rfl := hw.symm; rw [ht])
    | (go_at_call 168; refine (HH.out _).mono ?_; rintro e w1 ⟨rfl, b1⟩; have X1 := Lib.hid (X.out.next b1); obtain ⟨a0, a1, a2, a3, a4, a5, a6, a7, a8, a9, a10, a11, a12, a13, a14⟩ := cells15 (X1.out.at 1 rfl); clear b1)
    | (go_at_call 169; refine (O.out _ X1.out.b).mono ?_; rintro e w' ⟨rfl, hw⟩; obtain rfl := hw))
  obtain ⟨f0, f1, f2, f3, f4, f5, f6, f7, f8, f9, f10, f11, f12, f13, f14⟩ := frozen15 (X1.out.at 1 rfl)
  go_upto_region 9 with (fail)
  clear f0 f1 f2 f3 f4 f5 f6 f7 f8 f9 f10 f11 f12 f13 f14
  obtain ⟨w3, hw3⟩ : ∃ w3, ((((((((((((((w1.setCell ⟨g, 1, none⟩ (.int .i64 t)).setCell ⟨g, 2, none⟩ (.int .u32 0)).setCell ⟨g, 3, none⟩ (.int .i64 0)).setCell ⟨g, 4, none⟩ (.int .i64 0)).setCell ⟨g, 5, none⟩ (.int .i64 0)).setCell ⟨g, 6, none⟩ (.int .i64 0)).setCell ⟨g, 7, none⟩ (.int .i64 0)).setCell ⟨g, 8, none⟩ (.int .i64 0)).setCell ⟨g, 9, none⟩ (.int .i64 0)).setCell ⟨g, 10, none⟩ (.int .i64 0)).setCell ⟨g, 11, none⟩ (.int .i64 0)).setCell ⟨g, 12, none⟩ (.int .i64 0)).setCell ⟨g, 13, none⟩ (.int .i64 0)).setCell ⟨g, 14, none⟩ (.int .i64 0)) = w3 := ⟨_, rfl⟩
  have Y : w3.heap[g]? = some (pbx d t s Z Z) := by
    rw [hs, hZ, ← hw3]
    exact put14 (X1.out.at 1 rfl) _ _ _ _ _ _ _ _ _ _ _ _ _ _ 
  have K3 := Lib.hid (show Kept g w1 w3 by rw [← hw3]; exact keep14 w1 g _ _ _ _ _ _ _ _ _ _ _ _ _ _ )
  have Y5 : w3.heap[w.heap.size]? = some (cb k f y c l) := (K3.out.block _ (by have := GL.out; omega) (lt_of_heap (X1.out.at 0 rfl))).trans (X1.out.at 0 rfl)
  rw [hw3]
  have X3 := Lib.hid (show Stay w3 [(w.heap.size, cb k f y c l), (g, pbx d t s Z Z)] w3 from ((Stay.start w3).add Y).add Y5)
  clear hw3 Y Y5
  have HS := Lib.hid hs
  have HZ := Lib.hid hZ
  clear hs hZ
  clear a0 a1 a2 a3 a4 a5 a6 a7 a8 a9 a10 a11 a12 a13 a14 d0 d1 d2 d3 d4
  obtain ⟨a0, a1, a2, a3, a4, a5, a6, a7, a8, a9, a10, a11, a12, a13, a14⟩ := cells15 (X3.out.at 1 rfl)
  obtain ⟨d0, d1, d2, d3, d4⟩ := FrameW.cells5 (X3.out.at 0 rfl)
  have kp : Hid (Kept g w w3) := Lib.hid ((Kept.of X1.out.b).trans K3.out)
  apply wp_some (S := fun w' => w'.heap[g]? = some (pbx d t (s ||| only (f : Int)) (upd Z f 0) (upd Z f y)) ∧ Kept g w w')
  case h =>
    refine wp_region_noPanic ?_
    go_region_law (first
      | (go_at_call 171; refine (WI.out _).mono ?_; rintro e w8 ⟨rfl, b8⟩; have h8 := row_below b8 (X3.out.at 1 rfl); obtain ⟨p0, p1, p2, p3, p4, p5, p6, p7, p8, p9, p10, p11, p12, p13, p14⟩ := cells15 h8; obtain ⟨f0, f1, f2, f3, f4, f5, f6, f7, f8, f9, f10, f11, f12, f13, f14⟩ := frozen15 h8; have H8 := Lib.hid h8; have B8 := Lib.hid b8; clear h8 b8)
      | (go_simp; go_at_call 171; refine (WI.out _).mono ?_; rintro e w8 ⟨rfl, b8⟩; have h8 := row_below b8 (X3.out.at 1 rfl); obtain ⟨p0, p1, p2, p3, p4, p5, p6, p7, p8, p9, p10, p11, p12, p13, p14⟩ := cells15 h8; obtain ⟨f0, f1, f2, f3, f4, f5, f6, f7, f8, f9, f10, f11, f12, f13, f14⟩ := frozen15 h8; have H8 := Lib.hid h8; have B8 := Lib.hid b8; clear h8 b8))
    all_goals exact NoPanic.normal ⟨rfl, rfl, put14 H8.out _ _ _ _ _ _ _ _ _ _ _ _ _ _ , (kp.out.trans (Kept.of (show Below w3.heap.size w3 _ from ⟨B8.out.os, B8.out.tape, B8.out.output, B8.out.size, B8.out.block⟩))).trans (keep14 _ g _ _ _ _ _ _ _ _ _ _ _ _ _ _ )⟩
  case hm =>
  rintro w9 ⟨h9, k9⟩
  have H9 := Lib.hid h9
  have K9 := Lib.hid k9
  clear a0 a1 a2 a3 a4 a5 a6 a7 a8 a9 a10 a11 a12 a13 a14 d0 d1 d2 d3 d4 h9 k9
  go_wp2_with (go_at_call 170; refine (E2.out _ H9.out).mono ?_; rintro e w10 ⟨rfl, b10⟩; have B10 := Lib.hid b10; clear b10)
  go_ret2
  have h10 := row_below B10.out H9.out
  rw [HS.out, HZ.out] at h10
  exact ⟨rfl, h10, K9.out.trans (Kept.of B10.out)⟩
end Go.Proofs.YtmagjekmlnpfpaaGreat.CompW



/- Close. -/
namespace Go.Proofs.YtmagjekmlnpfpaaGreat.CompW
open Go.RowKit Shell
open CrewW (only has of has_any of_any mem mem_len memTo_range members_any)
abbrev rbx (p s y : Int) : Obj := .cells #[.int .i64 p, .int .u32 s, .int .i64 y] 92 (0, 0)
theorem ret_r {fn : Func} {R : Ending → World → Prop} {p u : Tmp} (h : fn.results = #[.cell p 92, .tmp u]) {tmps : Array Value} {w : World} {g : Nat} {x1 x2 x3 : Value} {t : TypeId} {fr : Nat × Nat}
    (hp : tmps.getD p undef = .pointer (some ⟨g, 0, none⟩)) (hg : w.heap[g]? = some (.cells #[x1, x2, x3] t fr)) (hR : R (.returned (.tuple #[.agg #[x1, x2, x3], tmps.getD u undef])) w) :
    bodyPost Tryz.prog fn R .ret { tmps := tmps, defers := [] } w :=
  bodyPost_ret (by
    have hp' : tmps[p]?.getD undef = .pointer (some ⟨g, 0, none⟩) := by simpa using hp
    simp [results, h, hp', asAddr, run_loadVar_row w g t 92 #[x1, x2, x3] fr _ hg Tryz.underlying92 rfl (by kernel_rfl)]) rfl hR
/-- What is turned beside g is a block of the call's own. -/
theorem kept_new {g q : Nat} {w w1 w2 : World} (h : Kept g w w1) (k : Kept q w1 w2) (hq : w.heap.size ≤ q) : Kept g w w2 :=
  ⟨k.os.trans h.os, k.tape.trans h.tape, k.output.trans h.output, Nat.le_trans h.size k.size, fun j hj hl => (k.block j (by omega) (Nat.lt_of_lt_of_le hl h.size)).trans (h.block j hj hl)⟩
/-- What Close tells where there is nothing. -/
abbrev noR : Value := .tuple #[.agg #[.int .i64 0, .int .u32 0, .int .i64 0], .bool false]
theorem close_none {w : World} {g : Nat} {d b : Int} {R C : Nat → Int} (h : w.heap[g]? = some (pbx d b 0 R C)) (t : Int) : Calls Tryz.prog 140 #[.pointer (some ⟨g, 0, none⟩), .int .i64 t] w fun e w' => e = .returned noR ∧ Below w.heap.size w w' := by
  have O := (fun W (hb : Below w.heap.size w W) => open_any (row_below hb h))
  rw [show decide ((0 : Nat) ≠ 0) = false by decide] at O
  have O := Lib.hid O
  have X := Lib.hid (((Stay.start w).add h).alloc (rbx 0 0 0))
  go_enter Tryz.func140, Tryz.ntmps140
  go_wp2_with (go_at_call 169; refine (O.out _ X.out.b).mono ?_; rintro e w' ⟨rfl, hw⟩; obtain rfl := hw.symm)
  refine ret_r rfl rfl (heap_alloc_new _ _) ?_
  exact ⟨rfl, al (Below.refl _ _) _⟩
theorem close_early {w : World} {g : Nat} {d b : Int} {s : Nat} {R C : Nat → Int} (h : w.heap[g]? = some (pbx d b s R C)) (hs : s ≠ 0) (hb0 : -1125899906842624 ≤ b ∧ b ≤ 1125899906842624) (hd0 : 0 ≤ d ∧ d ≤ 1048576) (t : Int) (ht : t < b + d) : Calls Tryz.prog 140 #[.pointer (some ⟨g, 0, none⟩), .int .i64 t] w fun e w' => e = .returned noR ∧ Below w.heap.size w w' := by
  have O := (fun W (hb : Below w.heap.size w W) => open_any (row_below hb h))
  rw [show decide (s ≠ 0) = true from decide_eq_true hs] at O
  have O := Lib.hid O
  have E := Lib.hid (fun W (hb : Below w.heap.size w W) => end_any (row_below hb h) hb0 hd0)
  have X := Lib.hid (((Stay.start w).add h).alloc (rbx 0 0 0))
  clear hs
  go_enter Tryz.func140, Tryz.ntmps140
  go_wp2_with (first
    | (go_at_call 169; refine (O.out _ X.out.b).mono ?_; rintro e w' ⟨rfl, hw⟩; obtain rfl := hw.symm)
    | (go_at_call 170; refine (E.out _ X.out.b).mono ?_; rintro e w1 ⟨rfl, b1⟩; have X1 := Lib.hid (X.out.next b1); obtain ⟨c0, c1, c2⟩ := cells3 (X1.out.at 0 rfl); obtain ⟨f0, f1, f2⟩ := frozen3 (X1.out.at 0 rfl); clear b1))
  refine ret_r rfl rfl (put3 (X1.out.at 0 rfl) _ _ _) ?_
  exact ⟨rfl, X1.out.b.trans ((kept3 _ w.heap.size _ _ _).below (Nat.le_refl _) X1.out.b.size)⟩
set_option maxHeartbeats 2000000 in
theorem close_ok {w : World} {g : Nat} {d b : Int} {s : Nat} {R C : Nat → Int} (h : w.heap[g]? = some (pbx d b s R C)) (hs : s ≠ 0) (hb0 : -1125899906842624 ≤ b ∧ b ≤ 1125899906842624) (hd0 : 0 ≤ d ∧ d ≤ 1048576) (t : Int) (ht : ¬ t < b + d) (p y : Int)
    (PT : ∀ W, Calls Tryz.prog 172 #[GV b s R C] W fun e w' => e = .returned (.int .i64 p) ∧ Below W.heap.size W w')
    (CY : ∀ W, Calls Tryz.prog 173 #[GV b s R C] W fun e w' => e = .returned (.int .i64 y) ∧ Below W.heap.size W w') :
    Calls Tryz.prog 140 #[.pointer (some ⟨g, 0, none⟩), .int .i64 t] w fun e w' => e = .returned (.tuple #[.agg #[.int .i64 p, .int .u32 (s : Int), .int .i64 y], .bool true]) ∧ w'.heap[g]? = some (pbx d 0 0 zero zero) ∧ Kept g w w' := by
  have O := (fun W (hb : Below w.heap.size w W) => open_any (row_below hb h))
  rw [show decide (s ≠ 0) = true from decide_eq_true hs] at O
  have O := Lib.hid O
  have E := Lib.hid (fun W (hb : Below w.heap.size w W) => end_any (row_below hb h) hb0 hd0)
  have X := Lib.hid (((Stay.start w).add h).alloc (rbx 0 0 0))
  unfold GV at PT CY
  have PT := Lib.hid PT
  have CY := Lib.hid CY
  have GL := Lib.hid (lt_of_heap h)
  clear hs
  go_enter Tryz.func140, Tryz.ntmps140
  go_upto_region 3 with (first
    | (go_at_call 169; refine (O.out _ X.out.b).mono ?_; rintro e w' ⟨rfl, hw⟩; obtain rfl := hw.symm)
    | (go_at_call 170; refine (E.out _ X.out.b).mono ?_; rintro e w1 ⟨rfl, b1⟩; have X1 := Lib.hid (X.out.next b1); clear b1))
  obtain ⟨a0, a1, a2, a3, a4, a5, a6, a7, a8, a9, a10, a11, a12, a13, a14⟩ := cells15 (X1.out.at 1 rfl)
  go_upto_region 4 with (fail)
  clear a0 a1 a2 a3 a4 a5 a6 a7 a8 a9 a10 a11 a12 a13 a14
  have X2 := Lib.hid (X1.out.alloc (gbx b s R C))
  generalize w1.alloc (gbx b s R C) = w2 at *
  generalize w1.heap.size = q at *
  obtain ⟨a0, a1, a2, a3, a4, a5, a6, a7, a8, a9, a10, a11, a12, a13, a14⟩ := cells15 (X2.out.at 2 rfl)
  obtain ⟨f0, f1, f2, f3, f4, f5, f6, f7, f8, f9, f10, f11, f12, f13, f14⟩ := frozen15 (X2.out.at 2 rfl)
  go_upto_region 5 with (fail)
  obtain ⟨w3, hw3⟩ : ∃ w3, ((((((((((((((w2.setCell ⟨g, 1, none⟩ (.int .i64 0)).setCell ⟨g, 2, none⟩ (.int .u32 0)).setCell ⟨g, 3, none⟩ (.int .i64 0)).setCell ⟨g, 4, none⟩ (.int .i64 0)).setCell ⟨g, 5, none⟩ (.int .i64 0)).setCell ⟨g, 6, none⟩ (.int .i64 0)).setCell ⟨g, 7, none⟩ (.int .i64 0)).setCell ⟨g, 8, none⟩ (.int .i64 0)).setCell ⟨g, 9, none⟩ (.int .i64 0)).setCell ⟨g, 10, none⟩ (.int .i64 0)).setCell ⟨g, 11, none⟩ (.int .i64 0)).setCell ⟨g, 12, none⟩ (.int .i64 0)).setCell ⟨g, 13, none⟩ (.int .i64 0)).setCell ⟨g, 14, none⟩ (.int .i64 0)) = w3 := ⟨_, rfl⟩
  have Y : w3.heap[g]? = some (pbx d 0 0 zero zero) := by
    rw [← hw3]
    exact put14 (X2.out.at 2 rfl) _ _ _ _ _ _ _ _ _ _ _ _ _ _ 
  have K3 := Lib.hid (show Kept g w2 w3 by rw [← hw3]; exact keep14 w2 g _ _ _ _ _ _ _ _ _ _ _ _ _ _ )
  have gq : ¬ q = g := by
    intro e
    have h1 := X2.out.at 0 rfl
    rw [e] at h1
    have h2 := h1.symm.trans (X2.out.at 2 rfl)
    simp at h2
  have Y1 : w3.heap[q]? = some (gbx b s R C) := (K3.out.block _ gq (lt_of_heap (X2.out.at 0 rfl))).trans (X2.out.at 0 rfl)
  have Y2 : w3.heap[w.heap.size]? = some (rbx 0 0 0) := (K3.out.block _ (by have := GL.out; omega) (lt_of_heap (X2.out.at 1 rfl))).trans (X2.out.at 1 rfl)
  rw [hw3]
  have X3 := Lib.hid (show Stay w3 [(q, gbx b s R C), (w.heap.size, rbx 0 0 0), (g, pbx d 0 0 zero zero)] w3 from (((Stay.start w3).add Y).add Y2).add Y1)
  have K0 := Lib.hid ((Kept.of X2.out.b).trans K3.out : Kept g w w3)
  clear a0 a1 a2 a3 a4 a5 a6 a7 a8 a9 a10 a11 a12 a13 a14 f0 f1 f2 f3 f4 f5 f6 f7 f8 f9 f10 f11 f12 f13 f14
  clear hw3 Y Y1 Y2 gq
  obtain ⟨a0, a1, a2, a3, a4, a5, a6, a7, a8, a9, a10, a11, a12, a13⟩ := cells14 (X3.out.at 0 rfl)
  apply wp_some (S := fun w' => w'.heap[w.heap.size]? = some (rbx p s y) ∧ w'.heap[g]? = some (pbx d 0 0 zero zero) ∧ Kept g w w')
  case h =>
    refine wp_region_noPanic ?_
    go_region_law (first
      | (go_at_call 172; refine (PT.out _).mono ?_; rintro e w5 ⟨rfl, b5⟩; have X5 := Lib.hid (X3.out.drew.next b5); obtain ⟨p0, p1, p2, p3, p4, p5, p6, p7, p8, p9, p10, p11, p12, p13⟩ := cells14 (X5.out.at 0 rfl); clear b5)
      | (go_at_call 173; refine (CY.out _).mono ?_; rintro e w6 ⟨rfl, b6⟩; have X6 := Lib.hid (X5.out.next b6); obtain ⟨q0, q1, q2, q3, q4, q5, q6, q7, q8, q9, q10, q11, q12, q13⟩ := cells14 (X6.out.at 0 rfl); obtain ⟨c0, c1, c2⟩ := cells3 (X6.out.at 1 rfl); obtain ⟨f0, f1, f2⟩ := frozen3 (X6.out.at 1 rfl); clear b6)
      | (go_simp; go_at_call 172; refine (PT.out _).mono ?_; rintro e w5 ⟨rfl, b5⟩; have X5 := Lib.hid (X3.out.drew.next b5); obtain ⟨p0, p1, p2, p3, p4, p5, p6, p7, p8, p9, p10, p11, p12, p13⟩ := cells14 (X5.out.at 0 rfl); clear b5)
      | (go_simp; go_at_call 173; refine (CY.out _).mono ?_; rintro e w6 ⟨rfl, b6⟩; have X6 := Lib.hid (X5.out.next b6); obtain ⟨q0, q1, q2, q3, q4, q5, q6, q7, q8, q9, q10, q11, q12, q13⟩ := cells14 (X6.out.at 0 rfl); obtain ⟨c0, c1, c2⟩ := cells3 (X6.out.at 1 rfl); obtain ⟨f0, f1, f2⟩ := frozen3 (X6.out.at 1 rfl); clear b6))
    all_goals refine NoPanic.normal ⟨rfl, rfl, put3 (X6.out.at 1 rfl) _ _ _, ((kept3 _ w.heap.size _ _ _).block g (by have := GL.out; omega) (lt_of_heap (X6.out.at 2 rfl))).trans (X6.out.at 2 rfl), ?_⟩
    all_goals exact kept_new (K0.out.trans (Kept.of X6.out.b)) (kept3 _ w.heap.size _ _ _) (Nat.le_refl _)
  case hm =>
  rintro w9 ⟨h9, h10, k9⟩
  have H9 := Lib.hid h9
  have H10 := Lib.hid h10
  have K9 := Lib.hid k9
  clear a0 a1 a2 a3 a4 a5 a6 a7 a8 a9 a10 a11 a12 a13 h9 h10 k9
  go_wp2
  refine ret_r rfl rfl H9.out ?_
  exact ⟨rfl, H10.out, K9.out⟩
end Go.Proofs.YtmagjekmlnpfpaaGreat.CompW


