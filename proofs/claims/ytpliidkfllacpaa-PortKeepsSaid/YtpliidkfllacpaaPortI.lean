/- What is asked of a port, whatever it is made of: the laws are walked by this alone. -/
import Derived.Test.YtpliidkfllacpaaPortB
import Derived.Test.YtpliidkfllacpaaFrameF
namespace Go.Proofs.Ytpliidkfllacpaa.PortW
open Go.RowKit Shell
/-- May a frame wait at a port? -/
def okP (x : Da) : Prop := FrameW.rightD x.c x.l x.n (FrameW.bs x.p) x.s ∧ x.c ≠ 1
/-- Nothing but the blocks of X has turned; those of X' are of X, or new. -/
structure Turn (X X' : Nat → Prop) (w w' : World) : Prop where
  os : w'.os = w.os
  tape : w'.tape = w.tape
  output : w'.output = w.output
  size : w.heap.size ≤ w'.heap.size
  block : ∀ j, j < w.heap.size → ¬ X j → w'.heap[j]? = w.heap[j]?
  foot : ∀ j, X' j → X j ∨ w.heap.size ≤ j
theorem Turn.below {X X' : Nat → Prop} {w w' : World} {B : Nat} (h : Turn X X' w w') (hX : ∀ j, X j → B ≤ j) (hB : B ≤ w.heap.size) : Below B w w' :=
  ⟨h.os, h.tape, h.output, h.size, fun j hj => h.block j (by omega) (fun hx => by have := hX j hx; omega)⟩
theorem Turn.of {X : Nat → Prop} {w w' : World} (b : Below w.heap.size w w') : Turn X X w w' := ⟨b.os, b.tape, b.output, b.size, fun j hj _ => b.block j hj, fun _ h => Or.inl h⟩
def zD : Da := ⟨0, 0, 0, ⟨#[]⟩, 0⟩
/-- The next one, and whether there is one. -/
def nxV (r e : List Da) : Value := match r ++ e with
  | x :: _ => .tuple #[dv x, .bool true]
  | [] => .tuple #[dv zD, .bool false]
/-- Without the next one: the rated ones, and the others. -/
def tR (r : List Da) : List Da := r.tail
def tE (r e : List Da) : List Da := if r = [] then e.tail else e
/-- A port in memory: lo (its blocks lie behind it), X (its blocks), g (where it is), m (its room), r and e (the rated ones, the others), l (how many were refused). -/
structure Spec (PI : Nat → (Nat → Prop) → Nat → Nat → List Da → List Da → Nat → World → Prop) : Prop where
  frame : ∀ {lo : Nat} {X : Nat → Prop} {g m : Nat} {r e : List Da} {l : Nat} {W W1 : World}, PI lo X g m r e l W → W.heap.size ≤ W1.heap.size → (∀ j, X j → W1.heap[j]? = W.heap[j]?) → PI lo X g m r e l W1
  foot : ∀ {lo : Nat} {X : Nat → Prop} {g m : Nat} {r e : List Da} {l : Nat} {W : World}, PI lo X g m r e l W → ∀ j, X j → lo ≤ j ∧ j < W.heap.size
  lower : ∀ {lo lo' : Nat} {X : Nat → Prop} {g m : Nat} {r e : List Da} {l : Nat} {W : World}, PI lo X g m r e l W → lo' ≤ lo → PI lo' X g m r e l W
  new_no : ∀ (n : Int) (W : World), ¬ (1 ≤ n ∧ n ≤ 64) → Calls Try.prog 8 #[.int .i64 n] W fun r W' => r = .returned (.tuple #[.pointer none, .int .i64 1]) ∧ Below W.heap.size W W'
  new_ok : ∀ (n : Nat) (W : World), 1 ≤ n → n ≤ 64 → Calls Try.prog 8 #[.int .i64 (n : Int)] W fun r W' => ∃ g X, r = .returned (.tuple #[.pointer (some ⟨g, 0, none⟩), .int .i64 0]) ∧ PI W.heap.size X g n [] [] 0 W' ∧ Below W.heap.size W W'
  offer_arg : ∀ {lo : Nat} {X : Nat → Prop} {g m : Nat} {r e : List Da} {l : Nat} {W : World} (x : Da), PI lo X g m r e l W → x.p.size ≤ maxLen → ¬ okP x → Calls Try.prog 11 #[.pointer (some ⟨g, 0, none⟩), dv x] W fun v W' => v = .returned (.int .i64 1) ∧ ∃ X', PI lo X' g m r e l W' ∧ Turn X X' W W'
  offer_full : ∀ {lo : Nat} {X : Nat → Prop} {g m : Nat} {r e : List Da} {l : Nat} {W : World} (x : Da), PI lo X g m r e l W → x.p.size ≤ maxLen → okP x → r.length + e.length = m → l < 4611686018427387904 → Calls Try.prog 11 #[.pointer (some ⟨g, 0, none⟩), dv x] W fun v W' => v = .returned (.int .i64 6) ∧ ∃ X', PI lo X' g m r e (l + 1) W' ∧ Turn X X' W W'
  offer_ok : ∀ {lo : Nat} {X : Nat → Prop} {g m : Nat} {r e : List Da} {l : Nat} {W : World} (x : Da), PI lo X g m r e l W → x.p.size ≤ maxLen → okP x → r.length + e.length < m → Calls Try.prog 11 #[.pointer (some ⟨g, 0, none⟩), dv x] W fun v W' => v = .returned (.int .i64 0) ∧ ∃ X', PI lo X' g m (if rat x then r ++ [x] else r) (if rat x then e else e ++ [x]) l W' ∧ Turn X X' W W'
  peek : ∀ {lo : Nat} {X : Nat → Prop} {g m : Nat} {r e : List Da} {l : Nat} {W : World}, PI lo X g m r e l W → Calls Try.prog 12 #[.pointer (some ⟨g, 0, none⟩)] W fun v W' => v = .returned (nxV r e) ∧ ∃ X', PI lo X' g m r e l W' ∧ Turn X X' W W'
  take : ∀ {lo : Nat} {X : Nat → Prop} {g m : Nat} {r e : List Da} {l : Nat} {W : World}, PI lo X g m r e l W → Calls Try.prog 13 #[.pointer (some ⟨g, 0, none⟩)] W fun v W' => v = .returned (nxV r e) ∧ ∃ X', PI lo X' g m (tR r) (tE r e) l W' ∧ Turn X X' W W'
  len : ∀ {lo : Nat} {X : Nat → Prop} {g m : Nat} {r e : List Da} {l : Nat} {W : World}, PI lo X g m r e l W → Calls Try.prog 17 #[.pointer (some ⟨g, 0, none⟩)] W fun v W' => v = .returned (.int .i64 ((r.length + e.length : Nat) : Int)) ∧ ∃ X', PI lo X' g m r e l W' ∧ Turn X X' W W'
  lost : ∀ {lo : Nat} {X : Nat → Prop} {g m : Nat} {r e : List Da} {l : Nat} {W : World}, PI lo X g m r e l W → Calls Try.prog 18 #[.pointer (some ⟨g, 0, none⟩)] W fun v W' => v = .returned (.int .i64 (l : Int)) ∧ ∃ X', PI lo X' g m r e l W' ∧ Turn X X' W W'
  clear : ∀ {lo : Nat} {X : Nat → Prop} {g m : Nat} {r e : List Da} {l : Nat} {W : World}, PI lo X g m r e l W → Calls Try.prog 16 #[.pointer (some ⟨g, 0, none⟩)] W fun v W' => ∃ A n c, v = .returned (.slice A n c) ∧ (n = r.length + e.length ∧ n ≤ c ∧ (A = none → c = 0) ∧ SG FD W' A (r ++ e)) ∧ ∃ X', PI lo X' g m [] [] l W' ∧ Turn X X' W W' ∧ ∀ a, A = some a → lo ≤ a.block ∧ ¬ X' a.block
  offer_nil : ∀ (x : Da) (W : World), x.p.size ≤ maxLen → Calls Try.prog 11 #[.pointer none, dv x] W fun v W' => v = .returned (.int .i64 1) ∧ Below W.heap.size W W'
  peek_nil : ∀ (W : World), Calls Try.prog 12 #[.pointer none] W fun v W' => v = .returned (.tuple #[dv zD, .bool false]) ∧ Below W.heap.size W W'
  take_nil : ∀ (W : World), Calls Try.prog 13 #[.pointer none] W fun v W' => v = .returned (.tuple #[dv zD, .bool false]) ∧ Below W.heap.size W W'
  len_nil : ∀ (W : World), Calls Try.prog 17 #[.pointer none] W fun v W' => v = .returned (.int .i64 0) ∧ Below W.heap.size W W'
  lost_nil : ∀ (W : World), Calls Try.prog 18 #[.pointer none] W fun v W' => v = .returned (.int .i64 0) ∧ Below W.heap.size W W'
  clear_nil : ∀ (W : World), Calls Try.prog 16 #[.pointer none] W fun v W' => ∃ A c, v = .returned (.slice A 0 c) ∧ Below W.heap.size W W'
section
variable {PI : Nat → (Nat → Prop) → Nat → Nat → List Da → List Da → Nat → World → Prop}
/-- A port from w0 on, and what else the call has turned. -/
structure PS (PI : Nat → (Nat → Prop) → Nat → Nat → List Da → List Da → Nat → World → Prop) (w0 : World) (X : Nat → Prop) (g m : Nat) (r e : List Da) (l : Nat) (W : World) : Prop where
  p : PI w0.heap.size X g m r e l W
  b : Below w0.heap.size w0 W
variable {w0 w w1 : World} {X X' : Nat → Prop} {g m : Nat} {r e r' e' : List Da} {l l' : Nat}
theorem PS.next (S : Spec PI) (h : PS PI w0 X g m r e l w) (b : Below w.heap.size w w1) : PS PI w0 X g m r e l w1 :=
  ⟨S.frame h.p b.size (fun j hj => b.block j (S.foot h.p j hj).2), h.b.trans (b.mono h.b.size)⟩
theorem PS.turn (S : Spec PI) (h : PS PI w0 X g m r e l w) (q : PI w0.heap.size X' g m r' e' l' w1) (t : Turn X X' w w1) : PS PI w0 X' g m r' e' l' w1 :=
  ⟨q, h.b.trans (t.below (fun j hj => (S.foot h.p j hj).1) h.b.size)⟩
/-- A row of the call's own beside the port. -/
theorem Turn.row (t : Turn X X' w w1) {base : Nat} {v : Value} {L : List Da} (o : OG FD w base 30 v L) (hx : ∀ k, v.ownBlock = some k → ¬ X k) : OG FD w1 base 30 v L ∧ ∀ k, v.ownBlock = some k → ¬ X' k :=
  ⟨o.block (fun k hk => t.block k (o.lt k hk).2 (hx k hk)), fun k hk hX => by
    rcases t.foot k hX with h1 | h1
    · exact hx k hk h1
    · have := (o.lt k hk).2; omega⟩
theorem Turn.bx (t : Turn X X' w w1) {j : Nat} {ob : Obj} (hj : w.heap[j]? = some ob) (hx : ¬ X j) : w1.heap[j]? = some ob ∧ ¬ X' j :=
  ⟨(t.block j (lt_of_heap hj) hx).trans hj, fun hX => by
    rcases t.foot j hX with h1 | h1
    · exact hx h1
    · have := lt_of_heap hj; omega⟩
theorem Turn.cell (t : Turn X X' w w1) {p : Addr} {v : Value} (h : w.cell? p = some v) (hx : ¬ X p.block) : w1.cell? p = some v :=
  (World.cell?_of_block (t.block p.block (Lib.lt_of_cell h) hx)).trans h
theorem Turn.sg (t : Turn X X' w w1) {A : Option Addr} {L : List Da} (h : SG FD w A L) (hx : ∀ a, A = some a → ¬ X a.block) : SG FD w1 A L := by
  intro k x hk
  obtain ⟨b, off, hA, hb, hc⟩ := h k x hk
  exact ⟨b, off, hA, Nat.lt_of_lt_of_le hb t.size, fun c u hu => t.cell (hc c u hu) (show ¬ X b from hx _ hA)⟩
/-- What is new is not the port's. -/
theorem PS.new (S : Spec PI) (h : PS PI w0 X g m r e l w) {j : Nat} (hj : w.heap.size ≤ j) : ¬ X j := fun hX => by
  have := (S.foot h.p j hX).2
  omega
/-- What came in is not the port's. -/
theorem PS.old (S : Spec PI) (h : PS PI w0 X g m r e l w) {j : Nat} (hj : j < w0.heap.size) : ¬ X j := fun hX => by
  have := (S.foot h.p j hX).1
  omega
end
end Go.Proofs.Ytpliidkfllacpaa.PortW
