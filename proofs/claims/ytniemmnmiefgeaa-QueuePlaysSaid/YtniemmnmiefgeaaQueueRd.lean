/- The document's own list: those that are kept; how many there may be. -/
import Derived.Test.YtniemmnmiefgeaaQueueRc
namespace Go.Proofs.Ytniemmnmiefgeaa.QueueW
open Go.RowKit
def keepR (lo : Int) (L : List Ri) : List Ri := L.filter fun x => decide (lo ≤ x.z)
theorem keepR_snoc {lo : Int} {L : List Ri} {y : Ri} {i : Nat} (hy : L[i]? = some y) : keepR lo (L.take (i + 1)) = if lo ≤ y.z then keepR lo (L.take i) ++ [y] else keepR lo (L.take i) := by
  obtain ⟨hi, e⟩ := List.getElem?_eq_some_iff.1 hy
  unfold keepR
  rw [List.take_succ_eq_append_getElem hi, e, List.filter_append]
  by_cases h : lo ≤ y.z
  · rw [if_pos h, List.filter_cons_of_pos (by simpa using h), List.filter_nil]
  · rw [if_neg h, List.filter_cons_of_neg (by simpa using h), List.filter_nil, List.append_nil]
/-- What Keep keeps. -/
structure Kp (w wr : World) (lo : Int) (L : List Ri) (v : Value) (i : Nat) : Prop where
  ls : LS wr w.heap.size v (keepR lo (L.take i))
  b : Below w.heap.size w wr
theorem Kp.put {w wr w1 : World} {lo : Int} {L : List Ri} {v v1 : Value} {i : Nat} {y : Ri} {ob : Obj} (h : Kp w wr lo L v i) (hy : L[i]? = some y) (hz : lo ≤ y.z) (l1 : LS w1 w.heap.size v1 (keepR lo (L.take i) ++ [y])) (g : Chg (fun j => v.ownBlock = some j) (wr.alloc ob) w1) : Kp w w1 lo L v1 (i + 1) :=
  ⟨by rw [keepR_snoc hy, if_pos hz]; exact l1, (h.b.alloc h.b.size ob).trans (g.below (B := w.heap.size) (fun j hj e => by have := (h.ls.lt j e).1; omega) (by have := h.b.size; simp; omega))⟩
theorem Kp.skip {w wr : World} {lo : Int} {L : List Ri} {v : Value} {i : Nat} {y : Ri} (h : Kp w wr lo L v i) (hy : L[i]? = some y) (hz : ¬ lo ≤ y.z) : Kp w wr lo L v (i + 1) :=
  ⟨by rw [keepR_snoc hy, if_neg hz]; exact h.ls, h.b⟩
set_option maxHeartbeats 4000000 in
set_option maxRecDepth 100000 in
theorem keep_any (lo : Int) (L : List Ri) (v : Value) (base : Nat) (w : World) (h : LS w base v L) (hl : L.length ≤ 65536) :
    Calls Try.prog 12 #[v, .int .i64 lo] w fun e w' => ∃ v', e = .returned v' ∧ LS w' w.heap.size v' (keepR lo L) ∧ Below w.heap.size w w' := by
  obtain ⟨A, c, rfl⟩ := h.form
  have HL := Lib.hid h
  have H0 := Lib.hid (show Kp w w lo L (.slice none 0 0) 0 from ⟨Or.inl ⟨rfl, rfl⟩, Below.refl _ _⟩)
  clear h
  go_enter Try.func12, Try.ntmps12
  go_wp2_with fail
  go_loopw [5, 6] (fun rv iv wr => ∃ (i : Nat) (v : Value), v = rv ∧ iv = .int .i64 i ∧ i ≤ L.length ∧ Hid (Kp w wr lo L v i)) (fun _ iv _ => L.length - (intOf iv).toNat)
  case atStart => exact ⟨0, _, rfl, rfl, Nat.zero_le _, H0⟩
  case round =>
    clear H0
    obtain ⟨i, v, rfl, rfl, hi, H⟩ := hrel
    by_cases hil : i < L.length
    · have ne : L ≠ [] := fun e => by rw [e] at hil; simp at hil
      obtain ⟨g, off, rfl, -, -, la⟩ := (HL.out.below H.out.b).lies ne
      obtain ⟨y, hy⟩ : ∃ y, L[i]? = some y := ⟨_, List.getElem?_eq_getElem hil⟩
      obtain ⟨a0, a1, a2, a3⟩ := la.cells hy
      have hy' : (i : Int) < (L.length : Int) := by omega
      by_cases hz : lo ≤ y.z
      · have PT := Lib.hid (fun (v1 : Value) (w1 : World) (ob : Obj) => Kp.put (v1 := v1) (w1 := w1) (ob := ob) H.out hy hz)
        have LSa := Lib.hid (H.out.ls.below (w1 := wr.alloc (itBox y)) ((Below.refl _ _).alloc (Nat.le_refl _) _))
        have BA := Lib.hid (show w.heap.size ≤ (wr.alloc (itBox y)).heap.size by have := H.out.b.size; simp; omega)
        have NW := Lib.hid (show ∀ j u, y.cs[j]? = some u → (wr.alloc (itBox y)).cell? ((⟨wr.heap.size, 0, none⟩ : Addr).add j) = some u from World.news_of_block (heap_alloc_new wr _))
        have hll : (keepR lo (L.take i)).length ≤ 1000000 := by
          unfold keepR
          refine Nat.le_trans (List.length_filter_le _ _) ?_
          rw [List.length_take]
          omega
        clear H la ne hy
        go_wp2_with (at_builtin; refine wpList_append_ls (v := v) (L := keepR lo (L.take i)) _ rfl _ _ rfl rfl LSa.out BA.out y ⟨wr.heap.size, 0, none⟩ 1 rfl NW.out hll ?_; intro v1 w1 l1 o1 g1; have L1 := Lib.hid l1; have G1 := Lib.hid g1; clear l1 o1 g1)
        go_roundw
        case rel => exact ⟨i + 1, v1, rfl, by congr 1, by omega, Lib.hid (PT.out _ _ _ L1.out G1.out)⟩
        case measure => simp only [intOf]; omega
      · have H1 := Lib.hid (H.out.skip hy hz)
        clear H la ne hy
        go_wp2
        go_roundw
        case rel => exact ⟨i + 1, v, rfl, by congr 1, by omega, H1⟩
        case measure => simp only [intOf]; omega
    · obtain rfl : i = L.length := by omega
      go_wp2
      go_ret
      have := H.out.ls
      rw [List.take_length] at this
      exact ⟨v, rfl, this, H.out.b⟩
theorem most_any (m : Int) (w : World) : Calls Try.prog 10 #[.int .i64 m] w fun e w' => e = .returned (.int .i64 (most m)) ∧ w = w' := by
  unfold most
  by_cases h0 : m < 0
  · rw [if_pos h0]
    go_enter Try.func10, Try.ntmps10
    go_wp2
    go_ret
    exact ⟨rfl, rfl⟩
  · rw [if_neg h0]
    by_cases h1 : 65536 < m
    · rw [if_pos h1]
      go_enter Try.func10, Try.ntmps10
      go_wp2
      go_ret
      exact ⟨rfl, rfl⟩
    · rw [if_neg h1]
      go_enter Try.func10, Try.ntmps10
      go_wp2
      go_ret
      exact ⟨rfl, rfl⟩
end Go.Proofs.Ytniemmnmiefgeaa.QueueW
