/- Small facts of worlds, of whatever program: blocks, cells, what is kept; a stretch of code that has but one way out. -/
import Derived.Test.YtnlimdlmhfnkiaaStay
import Derived.ProofKit
import Derived.Lib.Hide
import Derived.Lib.AtoiErrMem
namespace Go.Proofs.Ytnlimdlmhfnkiaa.Shell
open Go.RowKit
theorem al {w w1 : World} (h : Below w.heap.size w w1) (o : Obj) : Below w.heap.size w (w1.alloc o) := h.alloc h.size o
theorem heap_at {w : World} {g : Nat} (h : w.heap.size = g) (o : Obj) : (w.alloc o).heap[g]? = some o := by subst h; exact heap_alloc_new w o
theorem row_below {w w1 : World} (b : Below w.heap.size w w1) {g : Nat} {o : Obj} (h : w.heap[g]? = some o) : w1.heap[g]? = some o := (b.block g (lt_of_heap h)).trans h
theorem cell_keep {w w1 : World} {a : Addr} {v : Value} (h : w.cell? a = some v) (b : Below w.heap.size w w1) : w1.cell? a = some v := (b.cell (Lib.lt_of_cell h)).trans h
theorem cells3 {w : World} {j : Nat} {x y z : Value} {t : TypeId} (h : w.heap[j]? = some (.cells #[x, y, z] t (0, 0))) : w.cell? ⟨j, 0, none⟩ = some x ∧ w.cell? ⟨j, 1, none⟩ = some y ∧ w.cell? ⟨j, 2, none⟩ = some z :=
  ⟨cell_of_row w j 0 _ _ _ h, cell_of_row w j 1 _ _ _ h, cell_of_row w j 2 _ _ _ h⟩
theorem frozen3 {w : World} {j : Nat} {x y z : Value} {t : TypeId} (h : w.heap[j]? = some (.cells #[x, y, z] t (0, 0))) : w.frozen? ⟨j, 0, none⟩ = false ∧ w.frozen? ⟨j, 1, none⟩ = false ∧ w.frozen? ⟨j, 2, none⟩ = false :=
  ⟨frozen_of_row w j 0 _ _ h, frozen_of_row w j 1 _ _ h, frozen_of_row w j 2 _ _ h⟩
theorem Kept.drew {k : Nat} {w w1 : World} (h : Kept k w w1) : Kept k w w1.drew := ⟨h.os, h.tape, h.output, h.size, h.block⟩
theorem kept1 (w : World) (k i : Nat) (z : Value) : Kept k w (w.setCell ⟨k, i, none⟩ z) :=
  ⟨rfl, rfl, rfl, by simp [World.setCell], fun j hj _ => by rw [Below.heap_setCell _ _ _ _ hj]⟩
theorem kept2 (w : World) (k i j : Nat) (y z : Value) : Kept k w ((w.setCell ⟨k, i, none⟩ y).setCell ⟨k, j, none⟩ z) := (kept1 w k i y).trans (kept1 _ k j z)
theorem kept3 (w : World) (k : Nat) (x y z : Value) : Kept k w (((w.setCell ⟨k, 0, none⟩ x).setCell ⟨k, 1, none⟩ y).setCell ⟨k, 2, none⟩ z) := (kept2 w k 0 1 x y).trans (kept1 _ k 2 z)
theorem put3 {w : World} {k : Nat} {m b r : Value} {t : TypeId} (h : w.heap[k]? = some (.cells #[m, b, r] t (0, 0))) (x y z : Value) : (((w.setCell ⟨k, 0, none⟩ x).setCell ⟨k, 1, none⟩ y).setCell ⟨k, 2, none⟩ z).heap[k]? = some (.cells #[x, y, z] t (0, 0)) :=
  heap_setCell_same _ k 2 _ _ _ (heap_setCell_same _ k 1 _ _ _ (heap_setCell_same w k 0 _ _ _ h))
/-- A stretch of code that has but one way out. -/
theorem wp_one {P : Program} {c : Code} {Q : Exit → Act → World → Prop} {a : Act} {w : World} (A2 : Act) (W2 : World) (h : c.wp P (fun e a' w' => e = Exit.normal ∧ a' = A2 ∧ w' = W2) a w) (hm : Q .normal A2 W2) : c.wp P Q a w :=
  Code.wp_mono (fun _ _ _ ⟨h1, h2, h3⟩ => by subst h1; subst h2; subst h3; exact hm) h
/-- A stretch of code whose ways out all meet, but for the world, of which S is known. -/
theorem wp_some {P : Program} {c : Code} {Q : Exit → Act → World → Prop} {a : Act} {w : World} (A2 : Act) (S : World → Prop) (h : c.wp P (fun e a' w' => e = Exit.normal ∧ a' = A2 ∧ S w') a w) (hm : ∀ W, S W → Q .normal A2 W) : c.wp P Q a w :=
  Code.wp_mono (fun _ _ _ ⟨h1, h2, h3⟩ => by subst h1; subst h2; exact hm _ h3) h
end Go.Proofs.Ytnlimdlmhfnkiaa.Shell


/- What a method turns: nothing but an object's own blocks, wherever they lie. All programs at once. -/
namespace Go.Proofs.Ytnlimdlmhfnkiaa.Shell
open Go.RowKit
/-- Nothing but the blocks of X has turned; those of X' are of X, or new. -/
structure Turn (X X' : Nat → Prop) (w w' : World) : Prop where
  os : w'.os = w.os
  tape : w'.tape = w.tape
  output : w'.output = w.output
  size : w.heap.size ≤ w'.heap.size
  block : ∀ j, j < w.heap.size → ¬ X j → w'.heap[j]? = w.heap[j]?
  foot : ∀ j, X' j → X j ∨ w.heap.size ≤ j
section
variable {X X' X1 X2 : Nat → Prop} {w w1 w2 W W1 W2 : World} {k : Nat}
theorem Turn.below {B : Nat} (h : Turn X X' w w1) (hX : ∀ j, X j → B ≤ j) (hB : B ≤ w.heap.size) : Below B w w1 :=
  ⟨h.os, h.tape, h.output, h.size, fun j hj => h.block j (by omega) (fun hx => by have := hX j hx; omega)⟩
theorem Turn.of (b : Below w.heap.size w w1) : Turn X X w w1 := ⟨b.os, b.tape, b.output, b.size, fun j hj _ => b.block j hj, fun _ h => Or.inl h⟩
theorem Turn.trans (h : Turn X X1 W W1) (k : Turn X1 X2 W1 W2) : Turn X X2 W W2 :=
  ⟨k.os.trans h.os, k.tape.trans h.tape, k.output.trans h.output, Nat.le_trans h.size k.size, fun j hj hx => (k.block j (Nat.lt_of_lt_of_le hj h.size) (fun h1 => by
    rcases h.foot j h1 with h2 | h2
    · exact hx h2
    · omega)).trans (h.block j hj hx), fun j hj => by
    rcases k.foot j hj with h1 | h1
    · exact h.foot j h1
    · exact Or.inr (Nat.le_trans h.size h1)⟩
theorem Turn.kept (t : Turn X X' W W1) (kp : Kept k W1 W2) (hk : W.heap.size ≤ k) : Turn X X' W W2 :=
  ⟨kp.os.trans t.os, kp.tape.trans t.tape, kp.output.trans t.output, Nat.le_trans t.size kp.size, fun j hj hx => (kp.block j (by omega) (Nat.lt_of_lt_of_le hj t.size)).trans (t.block j hj hx), t.foot⟩
theorem Turn.mine (t : Turn X X' W W1) (kp : Kept k W1 W2) (hk : X' k) : Turn X X' W W2 :=
  ⟨kp.os.trans t.os, kp.tape.trans t.tape, kp.output.trans t.output, Nat.le_trans t.size kp.size, fun j hj hx => (kp.block j (fun e => by
    rcases t.foot k hk with h1 | h1
    · exact hx (e ▸ h1)
    · omega) (Nat.lt_of_lt_of_le hj t.size)).trans (t.block j hj hx), t.foot⟩
theorem Turn.bx {j : Nat} {ob : Obj} (t : Turn X X' w w1) (hj : w.heap[j]? = some ob) (hx : ¬ X j) : w1.heap[j]? = some ob ∧ ¬ X' j :=
  ⟨(t.block j (lt_of_heap hj) hx).trans hj, fun hX => by
    rcases t.foot j hX with h1 | h1
    · exact hx h1
    · have := lt_of_heap hj; omega⟩
theorem Turn.cell (t : Turn X X' w w1) {p : Addr} {v : Value} (h : w.cell? p = some v) (hx : ¬ X p.block) : w1.cell? p = some v :=
  (World.cell?_of_block (t.block p.block (Lib.lt_of_cell h) hx)).trans h
end
end Go.Proofs.Ytnlimdlmhfnkiaa.Shell

