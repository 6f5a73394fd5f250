/- Blocks of the call's own, kept in one fact while the world goes on. -/
import Derived.Below
import Derived.Laws.Rows
namespace Go.Proofs.YtmagjekmlnpfpaaGreat.Shell
open Go.RowKit
/-- All but one block is as it was. -/
structure Kept (k : Nat) (w w' : World) : Prop where
  os : w'.os = w.os
  tape : w'.tape = w.tape
  output : w'.output = w.output
  size : w.heap.size ≤ w'.heap.size
  block : ∀ j, j ≠ k → j < w.heap.size → w'.heap[j]? = w.heap[j]?
theorem Kept.below {k B : Nat} {w w' : World} (h : Kept k w w') (hB : B ≤ k) (hs : B ≤ w.heap.size) : Below B w w' :=
  ⟨h.os, h.tape, h.output, h.size, fun j hj => h.block j (by omega) (by omega)⟩
theorem Kept.of {k : Nat} {w w' : World} (h : Below w.heap.size w w') : Kept k w w' := ⟨h.os, h.tape, h.output, h.size, fun j _ hj => h.block j hj⟩
theorem Kept.trans {k : Nat} {a b c : World} (h : Kept k a b) (g : Kept k b c) : Kept k a c :=
  ⟨g.os.trans h.os, g.tape.trans h.tape, g.output.trans h.output, Nat.le_trans h.size g.size, fun j hj hs => (g.block j hj (Nat.lt_of_lt_of_le hs h.size)).trans (h.block j hj hs)⟩
theorem lt_of_heap {w : World} {j : Nat} {o : Obj} (h : w.heap[j]? = some o) : j < w.heap.size := by
  rcases Nat.lt_or_ge j w.heap.size with h1 | h1
  · exact h1
  · rw [Array.getElem?_eq_none h1] at h; cases h
/-- From w0 to w nothing old has turned, and the listed blocks hold what is listed. -/
structure Stay (w0 : World) (L : List (Nat × Obj)) (w : World) : Prop where
  b : Below w0.heap.size w0 w
  h : ∀ x ∈ L, w.heap[x.1]? = some x.2
theorem Stay.start (w : World) : Stay w [] w := ⟨Below.refl _ _, fun x hx => by cases hx⟩
theorem Stay.next {w0 w w1 : World} {L : List (Nat × Obj)} (h : Stay w0 L w) (b : Below w.heap.size w w1) : Stay w0 L w1 :=
  ⟨h.b.trans (b.mono h.b.size), fun x hx => (b.block x.1 (lt_of_heap (h.h x hx))).trans (h.h x hx)⟩
theorem Stay.drew {w0 w : World} {L : List (Nat × Obj)} (h : Stay w0 L w) : Stay w0 L w.drew := h.next (Below.refl _ _).drew
theorem Stay.add {w0 w : World} {L : List (Nat × Obj)} (h : Stay w0 L w) {j : Nat} {o : Obj} (hx : w.heap[j]? = some o) : Stay w0 ((j, o) :: L) w :=
  ⟨h.b, fun x hm => by
    rcases List.mem_cons.1 hm with rfl | hm
    · exact hx
    · exact h.h x hm⟩
theorem Stay.alloc {w0 w : World} {L : List (Nat × Obj)} (h : Stay w0 L w) (o : Obj) : Stay w0 ((w.heap.size, o) :: L) (w.alloc o) :=
  (h.next ((Below.refl _ _).alloc (Nat.le_refl _) o)).add (heap_alloc_new w o)
theorem Stay.at {w0 w : World} {L : List (Nat × Obj)} (h : Stay w0 L w) (i : Nat) {j : Nat} {o : Obj} (hi : L[i]? = some (j, o)) : w.heap[j]? = some o := h.h (j, o) (List.mem_of_getElem? hi)
theorem Stay.drop {w0 w : World} {L : List (Nat × Obj)} {x : Nat × Obj} (h : Stay w0 (x :: L) w) : Stay w0 L w := ⟨h.b, fun y hy => h.h y (List.mem_cons_of_mem _ hy)⟩
theorem Stay.sub {w0 w : World} {L M : List (Nat × Obj)} (h : Stay w0 L w) (hM : ∀ x ∈ M, x ∈ L) : Stay w0 M w := ⟨h.b, fun y hy => h.h y (hM y hy)⟩
/-- One of the blocks has turned. -/
theorem Stay.turn {w0 w w1 : World} {L : List (Nat × Obj)} {k : Nat} {o o' : Obj} (h : Stay w0 ((k, o) :: L) w) (kp : Kept k w w1) (hn : w1.heap[k]? = some o') (hk : w0.heap.size ≤ k) (hL : ∀ x ∈ L, x.1 ≠ k) : Stay w0 ((k, o') :: L) w1 :=
  ⟨h.b.trans (kp.below hk h.b.size), fun x hm => by
    rcases List.mem_cons.1 hm with rfl | hm
    · exact hn
    · have hw := h.h x (List.mem_cons_of_mem _ hm)
      exact (kp.block x.1 (hL x hm) (lt_of_heap hw)).trans hw⟩
end Go.Proofs.YtmagjekmlnpfpaaGreat.Shell


