/- What a method turns: nothing but an object's own blocks, wherever they lie. All programs at once. -/
import Derived.Test.YtjglgglolbkjlaaSmall
namespace Go.Proofs.Ytjglgglolbkjlaa.Shell
open Go.RowKit
/-- Nothing but the blocks of X has turned; those of X' are of X, or new. -/
structure Turn (X X' : Nat → Prop) (w w' : World) : Prop where
  os : w'.os = w.os
  tape : w'.tape = w.tape
  output : w'.output = w.output
  size : w.heap.size ≤ w'.heap.size
  block : ∀ j, j < w.heap.size → ¬ X j → w'.heap[j]? = w.heap[j]?
  foot : ∀ j, X' j → X j ∨ w.heap.size ≤ j
section
variable {X X' X1 X2 : Nat → Prop} {w w1 w2 W W1 W2 : World} {k : Nat}
theorem Turn.below {B : Nat} (h : Turn X X' w w1) (hX : ∀ j, X j → B ≤ j) (hB : B ≤ w.heap.size) : Below B w w1 :=
  ⟨h.os, h.tape, h.output, h.size, fun j hj => h.block j (by omega) (fun hx => by have := hX j hx; omega)⟩
theorem Turn.of (b : Below w.heap.size w w1) : Turn X X w w1 := ⟨b.os, b.tape, b.output, b.size, fun j hj _ => b.block j hj, fun _ h => Or.inl h⟩
theorem Turn.trans (h : Turn X X1 W W1) (k : Turn X1 X2 W1 W2) : Turn X X2 W W2 :=
  ⟨k.os.trans h.os, k.tape.trans h.tape, k.output.trans h.output, Nat.le_trans h.size k.size, fun j hj hx => (k.block j (Nat.lt_of_lt_of_le hj h.size) (fun h1 => by
    rcases h.foot j h1 with h2 | h2
    · exact hx h2
    · omega)).trans (h.block j hj hx), fun j hj => by
    rcases k.foot j hj with h1 | h1
    · exact h.foot j h1
    · exact Or.inr (Nat.le_trans h.size h1)⟩
theorem Turn.kept (t : Turn X X' W W1) (kp : Kept k W1 W2) (hk : W.heap.size ≤ k) : Turn X X' W W2 :=
  ⟨kp.os.trans t.os, kp.tape.trans t.tape, kp.output.trans t.output, Nat.le_trans t.size kp.size, fun j hj hx => (kp.block j (by omega) (Nat.lt_of_lt_of_le hj t.size)).trans (t.block j hj hx), t.foot⟩
theorem Turn.mine (t : Turn X X' W W1) (kp : Kept k W1 W2) (hk : X' k) : Turn X X' W W2 :=
  ⟨kp.os.trans t.os, kp.tape.trans t.tape, kp.output.trans t.output, Nat.le_trans t.size kp.size, fun j hj hx => (kp.block j (fun e => by
    rcases t.foot k hk with h1 | h1
    · exact hx (e ▸ h1)
    · omega) (Nat.lt_of_lt_of_le hj t.size)).trans (t.block j hj hx), t.foot⟩
theorem Turn.bx {j : Nat} {ob : Obj} (t : Turn X X' w w1) (hj : w.heap[j]? = some ob) (hx : ¬ X j) : w1.heap[j]? = some ob ∧ ¬ X' j :=
  ⟨(t.block j (lt_of_heap hj) hx).trans hj, fun hX => by
    rcases t.foot j hX with h1 | h1
    · exact hx h1
    · have := lt_of_heap hj; omega⟩
theorem Turn.cell (t : Turn X X' w w1) {p : Addr} {v : Value} (h : w.cell? p = some v) (hx : ¬ X p.block) : w1.cell? p = some v :=
  (World.cell?_of_block (t.block p.block (Lib.lt_of_cell h) hx)).trans h
end
end Go.Proofs.Ytjglgglolbkjlaa.Shell
