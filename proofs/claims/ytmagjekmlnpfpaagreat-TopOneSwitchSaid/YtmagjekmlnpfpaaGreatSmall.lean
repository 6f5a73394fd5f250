/- Small facts of worlds, of whatever program: blocks, cells, what is kept; a stretch of code that has but one way out. -/
import Derived.Test.YtmagjekmlnpfpaaGreatStay
import Derived.ProofKit
import Derived.Lib.Hide
import Derived.Lib.AtoiErrMem
namespace Go.Proofs.YtmagjekmlnpfpaaGreat.Shell
open Go.RowKit
theorem al {w w1 : World} (h : Below w.heap.size w w1) (o : Obj) : Below w.heap.size w (w1.alloc o) := h.alloc h.size o
theorem heap_at {w : World} {g : Nat} (h : w.heap.size = g) (o : Obj) : (w.alloc o).heap[g]? = some o := by subst h; exact heap_alloc_new w o
theorem row_below {w w1 : World} (b : Below w.heap.size w w1) {g : Nat} {o : Obj} (h : w.heap[g]? = some o) : w1.heap[g]? = some o := (b.block g (lt_of_heap h)).trans h
theorem cell_keep {w w1 : World} {a : Addr} {v : Value} (h : w.cell? a = some v) (b : Below w.heap.size w w1) : w1.cell? a = some v := (b.cell (Lib.lt_of_cell h)).trans h
theorem cells3 {w : World} {j : Nat} {x y z : Value} {t : TypeId} (h : w.heap[j]? = some (.cells #[x, y, z] t (0, 0))) : w.cell? ⟨j, 0, none⟩ = some x ∧ w.cell? ⟨j, 1, none⟩ = some y ∧ w.cell? ⟨j, 2, none⟩ = some z :=
  ⟨cell_of_row w j 0 _ _ _ h, cell_of_row w j 1 _ _ _ h, cell_of_row w j 2 _ _ _ h⟩
theorem frozen3 {w : World} {j : Nat} {x y z : Value} {t : TypeId} (h : w.heap[j]? = some (.cells #[x, y, z] t (0, 0))) : w.frozen? ⟨j, 0, none⟩ = false ∧ w.frozen? ⟨j, 1, none⟩ = false ∧ w.frozen? ⟨j, 2, none⟩ = false :=
  ⟨frozen_of_row w j 0 _ _ h, frozen_of_row w j 1 _ _ h, frozen_of_row w j 2 _ _ h⟩
theorem Kept.drew {k : Nat} {w w1 : World} (h : Kept k w w1) : Kept k w w1.drew := ⟨h.os, h.tape, h.output, h.size, h.block⟩
theorem kept1 (w : World) (k i : Nat) (z : Value) : Kept k w (w.setCell ⟨k, i, none⟩ z) :=
  ⟨rfl, rfl, rfl, by simp [World.setCell], fun j hj _ => by rw [Below.heap_setCell _ _ _ _ hj]⟩
theorem kept2 (w : World) (k i j : Nat) (y z : Value) : Kept k w ((w.setCell ⟨k, i, none⟩ y).setCell ⟨k, j, none⟩ z) := (kept1 w k i y).trans (kept1 _ k j z)
theorem kept3 (w : World) (k : Nat) (x y z : Value) : Kept k w (((w.setCell ⟨k, 0, none⟩ x).setCell ⟨k, 1, none⟩ y).setCell ⟨k, 2, none⟩ z) := (kept2 w k 0 1 x y).trans (kept1 _ k 2 z)
theorem put3 {w : World} {k : Nat} {m b r : Value} {t : TypeId} (h : w.heap[k]? = some (.cells #[m, b, r] t (0, 0))) (x y z : Value) : (((w.setCell ⟨k, 0, none⟩ x).setCell ⟨k, 1, none⟩ y).setCell ⟨k, 2, none⟩ z).heap[k]? = some (.cells #[x, y, z] t (0, 0)) :=
  heap_setCell_same _ k 2 _ _ _ (heap_setCell_same _ k 1 _ _ _ (heap_setCell_same w k 0 _ _ _ h))
/-- A stretch of code that has but one way out. -/
theorem wp_one {P : Program} {c : Code} {Q : Exit → Act → World → Prop} {a : Act} {w : World} (A2 : Act) (W2 : World) (h : c.wp P (fun e a' w' => e = Exit.normal ∧ a' = A2 ∧ w' = W2) a w) (hm : Q .normal A2 W2) : c.wp P Q a w :=
  Code.wp_mono (fun _ _ _ ⟨h1, h2, h3⟩ => by subst h1; subst h2; subst h3; exact hm) h
/-- A stretch of code whose ways out all meet, but for the world, of which S is known. -/
theorem wp_some {P : Program} {c : Code} {Q : Exit → Act → World → Prop} {a : Act} {w : World} (A2 : Act) (S : World → Prop) (h : c.wp P (fun e a' w' => e = Exit.normal ∧ a' = A2 ∧ S w') a w) (hm : ∀ W, S W → Q .normal A2 W) : c.wp P Q a w :=
  Code.wp_mono (fun _ _ _ ⟨h1, h2, h3⟩ => by subst h1; subst h2; exact hm _ h3) h
end Go.Proofs.YtmagjekmlnpfpaaGreat.Shell


