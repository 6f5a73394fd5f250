/- tick's numbers of 128 bits: widen, plus, minus: what they answer, as whole numbers modulo 2^128. -/
import Derived.Test.YtelfbjldfdlpnaaRows
import Derived.WalkKit
import Derived.Carry
import Derived.Laws.Bits64b
import Derived.Laws.NewBlocks
import Derived.Laws.Externs
import Derived.Laws.Rows
import Derived.WalkLawsBesides
import Derived.Lib.Hide
import Derived.WalkSpells
import Derived.Deep.RegionHeld3
import Derived.Lib.AtoiErrMem
namespace Go.Proofs.Ytelfbjldfdlpnaa.TickW
open Go.RowKit
theorem al {w w1 : World} (h : Below w.heap.size w w1) (o : Obj) : Below w.heap.size w (w1.alloc o) := h.alloc h.size o
theorem heap_at {w : World} {g : Nat} (h : w.heap.size = g) (o : Obj) : (w.alloc o).heap[g]? = some o := by
  subst h; exact heap_alloc_new _ _
theorem row_below {w w1 : World} (b : Below w.heap.size w w1) {g : Nat} {o : Obj} (h : w.heap[g]? = some o) : w1.heap[g]? = some o := by
  have hlt : g < w.heap.size := by
    rcases Nat.lt_or_ge g w.heap.size with h1 | h1
    · exact h1
    · rw [Array.getElem?_eq_none h1] at h; cases h
  exact (b.block g hlt).trans h
theorem cell_keep {w1 w2 : World} {a : Addr} {v : Value} (h : w1.cell? a = some v) (b : Below w1.heap.size w1 w2) : w2.cell? a = some v := (b.cell (Lib.lt_of_cell h)).trans h
theorem of_drew {W w1 : World} (b : Below W.drew.heap.size W.drew w1) : Below W.heap.size W w1 := ⟨b.os, b.tape, b.output, b.size, b.block⟩
end Go.Proofs.Ytelfbjldfdlpnaa.TickW

