/- A queue's New, Push, Peek, Pop and Len. -/
import Derived.Test.YtmkgnkbcdkcboaaPqF
import Derived.Test.YtmkgnkbcdkcboaaPqMost
import Derived.Test.YtmkgnkbcdkcboaaSmall
namespace Go.Proofs.Ytmkgnkbcdkcboaa.QueueW
open Go.RowKit
theorem results_pk {fn : Func} {p u v : Tmp} (h : fn.results = #[.cell p 37, .tmp u, .tmp v]) (tmps : Array Value) (w : World) (g : Nat) (t : TypeId) (x1 x2 x3 x4 x5 : Value) (fr : Nat × Nat)
    (hp : tmps.getD p undef = .pointer (some ⟨g, 0, none⟩)) (hg : w.heap[g]? = some (.cells #[x1, x2, x3, x4, x5] t fr)) :
    (results fn tmps).run Try.prog w = .ok (.tuple #[.agg #[x1, x2, x3, x4, x5], tmps.getD u undef, tmps.getD v undef]) w := by
  have hp' : tmps[p]?.getD undef = .pointer (some ⟨g, 0, none⟩) := by simpa using hp
  simp [results, h, hp', asAddr, run_loadVar_row w g t 37 #[x1, x2, x3, x4, x5] fr _ hg Try.underlying37 rfl (by kernel_rfl)]
/-- A result of a frame, a number and whether there is one. -/
theorem ret_pk {fn : Func} {R : Ending → World → Prop} {p u v : Tmp} (h : fn.results = #[.cell p 37, .tmp u, .tmp v]) {tmps : Array Value} {w : World} {g : Nat} {x1 x2 x3 x4 x5 : Value} {t : TypeId} {fr : Nat × Nat}
    (hp : tmps.getD p undef = .pointer (some ⟨g, 0, none⟩)) (hg : w.heap[g]? = some (.cells #[x1, x2, x3, x4, x5] t fr)) (hR : R (.returned (.tuple #[.agg #[x1, x2, x3, x4, x5], tmps.getD u undef, tmps.getD v undef])) w) :
    bodyPost Try.prog fn R .ret { tmps := tmps, defers := [] } w :=
  bodyPost_ret (results_pk h tmps w g t x1 x2 x3 x4 x5 fr hp hg) rfl hR
theorem put5 {W : World} {g : Nat} {t : TypeId} {a0 a1 a2 a3 a4 x0 x1 x2 x3 x4 : Value} (h : W.heap[g]? = some (.cells #[a0, a1, a2, a3, a4] t (0, 0))) :
    (((((W.setCell ⟨g, 0, none⟩ x0).setCell ⟨g, 1, none⟩ x1).setCell ⟨g, 2, none⟩ x2).setCell ⟨g, 3, none⟩ x3).setCell ⟨g, 4, none⟩ x4).heap[g]? = some (.cells #[x0, x1, x2, x3, x4] t (0, 0)) :=
  heap_setCell_same _ g 4 _ _ _ (heap_setCell_same _ g 3 _ _ _ (heap_setCell_same _ g 2 _ _ _ (heap_setCell_same _ g 1 _ _ _ (heap_setCell_same _ g 0 _ _ _ h))))
theorem kept5 (w : World) (k : Nat) (x0 x1 x2 x3 x4 : Value) : Shell.Kept k w (((((w.setCell ⟨k, 0, none⟩ x0).setCell ⟨k, 1, none⟩ x1).setCell ⟨k, 2, none⟩ x2).setCell ⟨k, 3, none⟩ x3).setCell ⟨k, 4, none⟩ x4) :=
  (Shell.kept3 w k x0 x1 x2).trans (Shell.kept2 _ k 3 4 x3 x4)
theorem cells5 {w : World} {j : Nat} {x0 x1 x2 x3 x4 : Value} {t : TypeId} (h : w.heap[j]? = some (.cells #[x0, x1, x2, x3, x4] t (0, 0))) : w.cell? ⟨j, 0, none⟩ = some x0 ∧ w.cell? ⟨j, 1, none⟩ = some x1 ∧ w.cell? ⟨j, 2, none⟩ = some x2 ∧ w.cell? ⟨j, 3, none⟩ = some x3 ∧ w.cell? ⟨j, 4, none⟩ = some x4 :=
  ⟨cell_of_row w j 0 _ _ _ h, cell_of_row w j 1 _ _ _ h, cell_of_row w j 2 _ _ _ h, cell_of_row w j 3 _ _ _ h, cell_of_row w j 4 _ _ _ h⟩
theorem frozen5 {w : World} {j : Nat} {x0 x1 x2 x3 x4 : Value} {t : TypeId} (h : w.heap[j]? = some (.cells #[x0, x1, x2, x3, x4] t (0, 0))) : w.frozen? ⟨j, 0, none⟩ = false ∧ w.frozen? ⟨j, 1, none⟩ = false ∧ w.frozen? ⟨j, 2, none⟩ = false ∧ w.frozen? ⟨j, 3, none⟩ = false ∧ w.frozen? ⟨j, 4, none⟩ = false :=
  ⟨frozen_of_row w j _ _ _ h, frozen_of_row w j _ _ _ h, frozen_of_row w j _ _ _ h, frozen_of_row w j _ _ _ h, frozen_of_row w j _ _ _ h⟩
abbrev cbx (k f y c l : Int) : Obj := .cells #[.int .i64 k, .int .i64 f, .int .i64 y, .int .u32 c, .int .i64 l] 37 (0, 0)
/-- A queue that holds S, in order. -/
structure QSC (w : World) (k : Nat) (m n : Int) (v : Value) (S : List It) : Prop where
  row : ∃ L, Row w 90 0 v L ∧ L.Perm S ∧ HO 0 L.length L
  blk : w.heap[k]? = some (qC m n v)
  own : v.ownBlock ≠ some k
  up : S.Pairwise lt
  old : ∀ x ∈ S, x.place < n
  few : S.length ≤ 65536
theorem QSC.frame {w w1 : World} {k : Nat} {m n : Int} {v : Value} {S : List It} (h : QSC w k m n v S) {X : Nat → Prop} (c : Chg X w w1) (h1 : ¬ X k) (h2 : ∀ j, v.ownBlock = some j → ¬ X j) : QSC w1 k m n v S := by
  obtain ⟨L, r, p, o⟩ := h.row
  exact ⟨⟨L, Row.of_block r (fun j hj => c.block j (r.lt hj) (h2 j hj)), p, o⟩, c.heap h.blk h1, h.own, h.up, h.old, h.few⟩
theorem QSC.below {w w1 : World} {k : Nat} {m n : Int} {v : Value} {S : List It} (h : QSC w k m n v S) (b : Below w.heap.size w w1) : QSC w1 k m n v S := h.frame (X := fun _ => False) (Chg.of b) (fun f => f) (fun _ _ f => f)
theorem QSC.lt {w : World} {k : Nat} {m n : Int} {v : Value} {S : List It} (h : QSC w k m n v S) : k < w.heap.size ∧ ∀ j, v.ownBlock = some j → j < w.heap.size := by
  obtain ⟨L, r, _⟩ := h.row
  exact ⟨lt_heap h.blk, fun j hj => r.lt hj⟩
theorem RowC.form {w : World} {T : TypeId} {v : Value} {L : List It} (h : Row w T 0 v L) : ∃ A c, v = .slice A L.length c := by
  rcases h.nil_form with ⟨rfl, rfl⟩ | ⟨g, c, rfl, _⟩
  · exact ⟨none, 0, rfl⟩
  · exact ⟨_, c, rfl⟩
theorem newC_any (m : Int) (w : World) : Calls Try.prog 22 #[.int .i64 m] w fun e w' => e = .returned (.pointer (some ⟨w.heap.size, 0, none⟩)) ∧ QSC w' w.heap.size (most m) 0 (.slice none 0 0) [] ∧ Below w.heap.size w w' := by
  have fin : ∀ o, o = qC (most m) 0 (.slice none 0 0) → QSC (w.alloc o) w.heap.size (most m) 0 (.slice none 0 0) [] ∧ Below w.heap.size w (w.alloc o) := by
    rintro o rfl
    exact ⟨⟨⟨[], World.ownsRow_nil _ _ _ _, List.Perm.refl _, fun c hc => (by simp at hc)⟩, heap_alloc_new _ _, fun h => (by cases h), List.Pairwise.nil, fun x hx => (by cases hx), by decide⟩, (Below.refl _ _).alloc (Nat.le_refl _) _⟩
  have F := Lib.hid fin
  clear fin
  unfold most at *
  by_cases h0 : m < 0
  · rw [if_pos h0] at F ⊢
    have h1 : m ≤ 0 := by omega
    go_enter Try.func22, Try.ntmps22
    go_wp2
    go_ret
    exact ⟨rfl, F.out _ rfl⟩
  · rw [if_neg h0] at F ⊢
    by_cases h1 : 65536 < m
    · rw [if_pos h1] at F ⊢
      go_enter Try.func22, Try.ntmps22
      go_wp2
      go_ret
      exact ⟨rfl, F.out _ rfl⟩
    · rw [if_neg h1] at F ⊢
      go_enter Try.func22, Try.ntmps22
      go_wp2
      go_ret
      exact ⟨rfl, F.out _ rfl⟩
theorem lenqC_any (k : Nat) (m n : Int) (v : Value) (S : List It) (w : World) (h : QSC w k m n v S) : Calls Try.prog 38 #[.pointer (some ⟨k, 0, none⟩)] w fun e w' => e = .returned (.int .i64 (S.length : Nat)) ∧ w = w' := by
  obtain ⟨L, r, p, _⟩ := h.row
  obtain ⟨A, c, rfl⟩ := RowC.form r
  have c2 : w.cell? ⟨k, 2, none⟩ = some (.slice A L.length c) := cell_of_row w k 2 _ _ _ h.blk
  rw [← p.length_eq]
  clear h r p
  go_enter Try.func38, Try.ntmps38
  go_wp2
  go_ret
  exact ⟨rfl, rfl⟩
theorem QSC.first {w : World} {k : Nat} {m n : Int} {v : Value} {x : It} {S : List It} (h : QSC w k m n v (x :: S)) : ∃ g c L, v = .slice (some ⟨g, 0, none⟩) L.length c ∧ Row w 90 0 (.slice (some ⟨g, 0, none⟩) L.length c) L ∧ L.Perm (x :: S) ∧ HO 0 L.length L ∧ 0 < L.length ∧ nth L 0 = x ∧ L.length ≤ 65536 ∧ ¬ k = g := by
  obtain ⟨L, r, p, o⟩ := h.row
  have l0 : 0 < L.length := by rw [p.length_eq]; simp
  rcases r.nil_form with ⟨_, rfl⟩ | ⟨g, c, rfl, _⟩
  · exact absurd l0 (Nat.lt_irrefl _)
  · exact ⟨g, c, L, rfl, r, p, o, l0, first_eq o p h.up, by rw [p.length_eq]; exact h.few, fun e => h.own (e ▸ rfl)⟩
set_option maxHeartbeats 1000000 in
theorem peekC_none (k : Nat) (m n : Int) (v : Value) (w : World) (h : QSC w k m n v []) : Calls Try.prog 37 #[.pointer (some ⟨k, 0, none⟩)] w fun e w' => e = .returned (.tuple #[(zC).thing, .int .i64 0, .bool false]) ∧ Below w.heap.size w w' := by
  have HL := Lib.hid (lenqC_any k m n v [] (w.alloc (cbx 0 0 0 0 0)) (h.below (Shell.al (Below.refl _ _) _)))
  clear h
  dsimp only [zC, It.thing]
  go_enter Try.func37, Try.ntmps37
  go_wp2_with (go_at_call 38; refine HL.out.mono ?_; rintro e w' ⟨rfl, rfl⟩; rw [show (([] : List It).length : Int) = 0 from rfl])
  exact ret_pk rfl rfl ((heap_alloc_old _ _ (by simp)).trans (heap_alloc_new w (cbx 0 0 0 0 0))) ⟨rfl, Shell.al (Shell.al (Below.refl _ _) _) _⟩
set_option maxHeartbeats 4000000 in
theorem peekC_some (k : Nat) (m n : Int) (v : Value) (x : It) (S : List It) (w : World) (h : QSC w k m n v (x :: S)) : Calls Try.prog 37 #[.pointer (some ⟨k, 0, none⟩)] w fun e w' => e = .returned (.tuple #[x.thing, .int .i64 x.time, .bool true]) ∧ Below w.heap.size w w' := by
  have H := Lib.hid h
  clear h
  go_enter Try.func37, Try.ntmps37
  go_wp2_with fail
  have B := Lib.hid (Shell.al (Below.refl w.heap.size w) (cbx 0 0 0 0 0))
  have X0 := Lib.hid (heap_alloc_new w (cbx 0 0 0 0 0))
  generalize w.alloc (.cells #[.int .i64 0, .int .i64 0, .int .i64 0, .int .u32 0, .int .i64 0] 37 (0, 0)) = W at *
  have h := H.out.below B.out
  clear H
  have HL := Lib.hid (lenqC_any k m n v (x :: S) W h)
  obtain ⟨g, c, L, rfl, r, p, o, l0, e0, few, _⟩ := h.first
  have c2 : W.cell? ⟨k, 2, none⟩ = some (.slice (some ⟨g, 0, none⟩) L.length c) := cell_of_row W k 2 _ _ _ h.blk
  obtain ⟨a0, a1, a2, a3, a4, a5, a6, a7, a8⟩ := r.cells l0
  rw [e0] at a0 a1 a2 a3 a4 a5 a6 a7 a8
  simp only [Nat.zero_mul, Nat.zero_add] at a0 a1 a2 a3 a4 a5 a6 a7 a8
  have l1 : (0 : Int) < (L.length : Int) := by omega
  obtain ⟨y0, y1, y2, y3, y4, y5, y6, y7, y8⟩ := x
  dsimp only [It.thing] at a0 a1 a2 a3 a4 a5 a6 a7 a8 ⊢
  have hS : (0 : Int) < ((S.length : Int) + 1) := by omega
  generalize L.length = l at *
  clear h r p o e0
  generalize hz : (({ time := y0, rank := y1, node := y2, place := y3, k := y4, f := y5, y := y6, c := y7, l := y8 } :: S : List It).length : Int) = z at *
  have z0 : ¬ z = 0 := by rw [← hz]; simp only [List.length_cons]; omega
  clear hz hS l0 few
  obtain ⟨f0, f1, f2, f3, f4⟩ := frozen5 X0.out
  skip
  go_wp2_with (go_at_call 38; refine HL.out.mono ?_; rintro e w' ⟨rfl, rfl⟩)
  clear a0 a1 a2 a3 a4 a5 a6 a7 a8 c2
  have Y0 := Lib.hid (heap_alloc_new W (.cells #[.int .i64 y0, .int .i64 y1, .int .i64 y2, .int .i64 y3, .int .i64 y4, .int .i64 y5, .int .i64 y6, .int .u32 y7, .int .i64 y8] 90 (0, 0)))
  have b0 := Lib.hid (Shell.al (Below.refl W.heap.size W) (.cells #[.int .i64 y0, .int .i64 y1, .int .i64 y2, .int .i64 y3, .int .i64 y4, .int .i64 y5, .int .i64 y6, .int .u32 y7, .int .i64 y8] 90 (0, 0)))
  generalize W.alloc (.cells #[.int .i64 y0, .int .i64 y1, .int .i64 y2, .int .i64 y3, .int .i64 y4, .int .i64 y5, .int .i64 y6, .int .u32 y7, .int .i64 y8] 90 (0, 0)) = V at *
  have X1 := Lib.hid (Shell.row_below b0.out X0.out)
  clear f0 f1 f2 f3 f4
  obtain ⟨f0, f1, f2, f3, f4⟩ := frozen5 X1.out
  obtain ⟨d0, d1, d2, d3, d4⟩ := cells5 X1.out
  have n1 : ¬ w.heap.size = W.heap.size := by have := lt_heap X0.out; omega
  have n2 : ¬ W.heap.size = w.heap.size := fun e => n1 e.symm
  obtain ⟨a0, a1, a2, a3, a4, a5, a6, a7, a8⟩ := cells9 Y0.out
  have BV := Lib.hid (B.out.trans (b0.out.mono B.out.size))
  have hV := BV.out.size
  go_region
  go_wp2
  refine ret_pk rfl rfl (put5 (W := V) X1.out) ⟨rfl, ?_⟩
  exact BV.out.trans ((kept5 V w.heap.size (.int .i64 y4) (.int .i64 y5) (.int .i64 y6) (.int .u32 y7) (.int .i64 y8)).drew.below (Nat.le_refl _) hV)
end Go.Proofs.Ytmkgnkbcdkcboaa.QueueW
