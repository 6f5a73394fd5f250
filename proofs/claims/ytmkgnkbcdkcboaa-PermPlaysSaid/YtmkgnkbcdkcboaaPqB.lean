/- The comparison of two things; how a pile's methods are found. -/
import Derived.Test.YtmkgnkbcdkcboaaPqA
namespace Go.Proofs.Ytmkgnkbcdkcboaa.QueueW
open Go.RowKit
theorem al {B : Nat} {w w' : World} (h : Below B w w') (hB : B ≤ w'.heap.size) (o : Obj) : Below B w (w'.alloc o) := h.alloc hB o
theorem ord_or (a b : It) : or4 (cmpI a.time b.time) (cmpI a.rank b.rank) (cmpI a.node b.node) (cmpI a.place b.place) = ord a b := rfl
theorem lt_heap {w : World} {j : Nat} {o : Obj} (h : w.heap[j]? = some o) : j < w.heap.size := by
  rcases Nat.lt_or_ge j w.heap.size with h1 | h1
  · exact h1
  · rw [Array.getElem?_eq_none h1] at h; cases h
set_option maxHeartbeats 4000000 in
set_option maxRecDepth 100000 in
theorem orderC_any (a b : It) (w : World) : Calls Try.prog 86 #[.agg #[.int .i64 a.time, .int .i64 a.rank, .int .i64 a.node, .int .i64 a.place, .int .i64 a.k, .int .i64 a.f, .int .i64 a.y, .int .u32 a.c, .int .i64 a.l], .agg #[.int .i64 b.time, .int .i64 b.rank, .int .i64 b.node, .int .i64 b.place, .int .i64 b.k, .int .i64 b.f, .int .i64 b.y, .int .u32 b.c, .int .i64 b.l]] w fun e w' => e = .returned (.int .i64 (ord a b)) ∧ Below w.heap.size w w' := by
  obtain ⟨a0, a1, a2, a3, a4, a5, a6, a7, a8⟩ := a
  obtain ⟨b0, b1, b2, b3, b4, b5, b6, b7, b8⟩ := b
  rw [← ord_or]
  dsimp only [It.thing]
  go_enter Try.func86, Try.ntmps86
  go_wp2_with fail
  have hb : Below w.heap.size w ((w.alloc (.cells #[.int .i64 a0, .int .i64 a1, .int .i64 a2, .int .i64 a3, .int .i64 a4, .int .i64 a5, .int .i64 a6, .int .u32 a7, .int .i64 a8] 90)).alloc (.cells #[.int .i64 b0, .int .i64 b1, .int .i64 b2, .int .i64 b3, .int .i64 b4, .int .i64 b5, .int .i64 b6, .int .u32 b7, .int .i64 b8] 90)) := al (al (Below.refl _ _) (Nat.le_refl _) _) (by simp) _
  have ha : ((w.alloc (.cells #[.int .i64 a0, .int .i64 a1, .int .i64 a2, .int .i64 a3, .int .i64 a4, .int .i64 a5, .int .i64 a6, .int .u32 a7, .int .i64 a8] 90)).alloc (.cells #[.int .i64 b0, .int .i64 b1, .int .i64 b2, .int .i64 b3, .int .i64 b4, .int .i64 b5, .int .i64 b6, .int .u32 b7, .int .i64 b8] 90)).heap[w.heap.size]? = some (.cells #[.int .i64 a0, .int .i64 a1, .int .i64 a2, .int .i64 a3, .int .i64 a4, .int .i64 a5, .int .i64 a6, .int .u32 a7, .int .i64 a8] 90) := by
    rw [heap_alloc_old _ _ (show w.heap.size < (w.alloc _).heap.size by simp)]
    exact heap_alloc_new _ _
  have hc : ((w.alloc (.cells #[.int .i64 a0, .int .i64 a1, .int .i64 a2, .int .i64 a3, .int .i64 a4, .int .i64 a5, .int .i64 a6, .int .u32 a7, .int .i64 a8] 90)).alloc (.cells #[.int .i64 b0, .int .i64 b1, .int .i64 b2, .int .i64 b3, .int .i64 b4, .int .i64 b5, .int .i64 b6, .int .u32 b7, .int .i64 b8] 90)).heap[w.heap.size + 1]? = some (.cells #[.int .i64 b0, .int .i64 b1, .int .i64 b2, .int .i64 b3, .int .i64 b4, .int .i64 b5, .int .i64 b6, .int .u32 b7, .int .i64 b8] 90) := by
    have := heap_alloc_new (w.alloc (.cells #[.int .i64 a0, .int .i64 a1, .int .i64 a2, .int .i64 a3, .int .i64 a4, .int .i64 a5, .int .i64 a6, .int .u32 a7, .int .i64 a8] 90)) (.cells #[.int .i64 b0, .int .i64 b1, .int .i64 b2, .int .i64 b3, .int .i64 b4, .int .i64 b5, .int .i64 b6, .int .u32 b7, .int .i64 b8] 90)
    simpa using this
  generalize (w.alloc (.cells #[.int .i64 a0, .int .i64 a1, .int .i64 a2, .int .i64 a3, .int .i64 a4, .int .i64 a5, .int .i64 a6, .int .u32 a7, .int .i64 a8] 90)).alloc (.cells #[.int .i64 b0, .int .i64 b1, .int .i64 b2, .int .i64 b3, .int .i64 b4, .int .i64 b5, .int .i64 b6, .int .u32 b7, .int .i64 b8] 90) = W at *
  have a_ := Lib.hid (cells9 ha)
  have c_ := Lib.hid (cells9 hc)
  have B := Lib.hid hb
  have l0 := lt_heap ha
  have l1 := lt_heap hc
  have k_ := Lib.hid (cells9 (show (W.alloc (row4 (cmpI a0 b0) (cmpI a1 b1) (cmpI a2 b2) (cmpI a3 b3))).drew.heap[w.heap.size]? = _ from (heap_alloc_old _ _ l0).trans ha))
  have m_ := Lib.hid (cells9 (show (W.alloc (row4 (cmpI a0 b0) (cmpI a1 b1) (cmpI a2 b2) (cmpI a3 b3))).drew.heap[w.heap.size + 1]? = _ from (heap_alloc_old _ _ l1).trans hc))
  have hs := Lib.hid hb.size
  have HO := Lib.hid (or_any (cmpI a0 b0) (cmpI a1 b1) (cmpI a2 b2) (cmpI a3 b3) W.heap.size 4 (W.alloc (row4 (cmpI a0 b0) (cmpI a1 b1) (cmpI a2 b2) (cmpI a3 b3))).drew (heap_alloc_new W _))
  clear ha hc hb l0 l1
  go_region_held3 (fun w' => (w'.cell? ⟨w.heap.size, 0, none⟩ = some (.int .i64 a0) ∧ w'.cell? ⟨w.heap.size, 1, none⟩ = some (.int .i64 a1) ∧ w'.cell? ⟨w.heap.size, 2, none⟩ = some (.int .i64 a2) ∧ w'.cell? ⟨w.heap.size, 3, none⟩ = some (.int .i64 a3) ∧ w'.cell? ⟨w.heap.size, 4, none⟩ = some (.int .i64 a4) ∧ w'.cell? ⟨w.heap.size, 5, none⟩ = some (.int .i64 a5) ∧ w'.cell? ⟨w.heap.size, 6, none⟩ = some (.int .i64 a6) ∧ w'.cell? ⟨w.heap.size, 7, none⟩ = some (.int .u32 a7) ∧ w'.cell? ⟨w.heap.size, 8, none⟩ = some (.int .i64 a8)) ∧ (w'.cell? ⟨w.heap.size + 1, 0, none⟩ = some (.int .i64 b0) ∧ w'.cell? ⟨w.heap.size + 1, 1, none⟩ = some (.int .i64 b1) ∧ w'.cell? ⟨w.heap.size + 1, 2, none⟩ = some (.int .i64 b2) ∧ w'.cell? ⟨w.heap.size + 1, 3, none⟩ = some (.int .i64 b3) ∧ w'.cell? ⟨w.heap.size + 1, 4, none⟩ = some (.int .i64 b4) ∧ w'.cell? ⟨w.heap.size + 1, 5, none⟩ = some (.int .i64 b5) ∧ w'.cell? ⟨w.heap.size + 1, 6, none⟩ = some (.int .i64 b6) ∧ w'.cell? ⟨w.heap.size + 1, 7, none⟩ = some (.int .u32 b7) ∧ w'.cell? ⟨w.heap.size + 1, 8, none⟩ = some (.int .i64 b8))) (first | exact ⟨a_.out, c_.out⟩ | exact ⟨k_.out, m_.out⟩) (first
    | (go_at_call 88; (with_reducible refine (cmp_any _ _ _).mono ?_); rintro e w' ⟨rfl, rfl⟩)
    | (go_at_call 87; (with_reducible refine HO.out.mono ?_); rintro e w' ⟨rfl, rfl⟩))
  go_wp2
  go_ret
  exact ⟨rfl, (al B.out hs.out _).drew⟩
end Go.Proofs.Ytmkgnkbcdkcboaa.QueueW
