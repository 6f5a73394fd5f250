/- A queue's Pop and Push. -/
import Derived.Test.YtmkgnkbcdkcboaaPqG
namespace Go.Proofs.Ytmkgnkbcdkcboaa.QueueW
open Go.RowKit
theorem chg5 (w : World) (k : Nat) (x0 x1 x2 x3 x4 : Value) : Chg (fun j => j = k) w (((((w.setCell ⟨k, 0, none⟩ x0).setCell ⟨k, 1, none⟩ x1).setCell ⟨k, 2, none⟩ x2).setCell ⟨k, 3, none⟩ x3).setCell ⟨k, 4, none⟩ x4) :=
  (((((Chg.refl _ _).setCell (X := fun j => j = k) (p := ⟨k, 0, none⟩) rfl _).setCell (X := fun j => j = k) (p := ⟨k, 1, none⟩) rfl _).setCell (X := fun j => j = k) (p := ⟨k, 2, none⟩) rfl _).setCell (X := fun j => j = k) (p := ⟨k, 3, none⟩) rfl _).setCell (X := fun j => j = k) (p := ⟨k, 4, none⟩) rfl _
set_option maxHeartbeats 4000000 in
theorem popC_none (k : Nat) (m n : Int) (v : Value) (w : World) (h : QSC w k m n v []) : Calls Try.prog 30 #[.pointer (some ⟨k, 0, none⟩)] w fun e w' => e = .returned (.tuple #[(zC).thing, .int .i64 0, .bool false]) ∧ Below w.heap.size w w' := by
  have H := Lib.hid h
  clear h
  dsimp only [zC, It.thing]
  go_enter Try.func30, Try.ntmps30
  go_wp2_with fail
  have B := Lib.hid (Shell.al (Below.refl w.heap.size w) (cbx 0 0 0 0 0))
  have X0 := Lib.hid (heap_alloc_new w (cbx 0 0 0 0 0))
  generalize w.alloc (.cells #[.int .i64 0, .int .i64 0, .int .i64 0, .int .u32 0, .int .i64 0] 37 (0, 0)) = W at *
  have HP := peekC_none k m n v W (H.out.below B.out)
  dsimp only [zC, It.thing] at HP
  have HP := Lib.hid HP
  clear H
  go_wp2_with (go_at_call 37; refine HP.out.mono ?_; rintro e w1 ⟨rfl, b1⟩; have X1 := Lib.hid (Shell.row_below (Shell.al b1 (cbx 0 0 0 0 0)) X0.out); have N1 := Lib.hid (heap_alloc_new w1 (cbx 0 0 0 0 0)); have B1 := Lib.hid (B.out.trans ((Shell.al b1 (cbx 0 0 0 0 0)).mono B.out.size)); have hw := Lib.hid b1.size; clear b1; obtain ⟨f0, f1, f2, f3, f4⟩ := frozen5 X1.out; obtain ⟨d0, d1, d2, d3, d4⟩ := cells5 X1.out; obtain ⟨e0, e1, e2, e3, e4⟩ := cells5 N1.out)
  exact ret_pk rfl rfl (put5 X1.out) ⟨rfl, B1.out.trans ((kept5 _ w.heap.size _ _ _ _ _).below (Nat.le_refl _) B1.out.size)⟩
set_option maxHeartbeats 4000000 in
theorem popC_some (k : Nat) (m n : Int) (v : Value) (x : It) (S : List It) (w : World) (h : QSC w k m n v (x :: S)) : Calls Try.prog 30 #[.pointer (some ⟨k, 0, none⟩)] w fun e w' => e = .returned (.tuple #[x.thing, .int .i64 x.time, .bool true]) ∧
    ∃ v', QSC w' k m n v' S ∧ v'.ownBlock = v.ownBlock ∧ Chg (fun j => j = k ∨ v.ownBlock = some j) w w' := by
  have H := Lib.hid h
  obtain ⟨x0, x1, x2, x3, x4, x5, x6, x7, x8⟩ := x
  dsimp only [It.thing]
  clear h
  go_enter Try.func30, Try.ntmps30
  go_wp2_with fail
  have B := Lib.hid (Shell.al (Below.refl w.heap.size w) (cbx 0 0 0 0 0))
  have X0 := Lib.hid (heap_alloc_new w (cbx 0 0 0 0 0))
  generalize w.alloc (.cells #[.int .i64 0, .int .i64 0, .int .i64 0, .int .u32 0, .int .i64 0] 37 (0, 0)) = W at *
  have HQ := Lib.hid (H.out.below B.out)
  have LT := Lib.hid H.out.lt
  have HP := peekC_some k m n v _ S W HQ.out
  dsimp only [It.thing] at HP
  have HP := Lib.hid HP
  clear H
  go_wp2_with (go_at_call 37; refine HP.out.mono ?_; rintro e w1 ⟨rfl, b1⟩; have B1 := Lib.hid b1; clear b1)
  have N1 := Lib.hid (heap_alloc_new w1 (cbx x4 x5 x6 x7 x8))
  have b2 := Lib.hid (Shell.al B1.out (cbx x4 x5 x6 x7 x8))
  have l1 := lt_heap (Shell.row_below B1.out X0.out)
  generalize w1.alloc (.cells #[.int .i64 x4, .int .i64 x5, .int .i64 x6, .int .u32 x7, .int .i64 x8] 37 (0, 0)) = V at *
  have X1 := Lib.hid (Shell.row_below b2.out X0.out)
  have h1 := HQ.out.below b2.out
  obtain ⟨g, c, L, rfl, r, p, o, l0, e0, few, hkg⟩ := h1.first
  have q1 := h1.blk
  have kw : k < w.heap.size := LT.out.1
  have gw : g < w.heap.size := LT.out.2 g rfl
  refine (hPopC_any k g c m n L V q1 r hkg few l0 o).mono ?_
  rintro e w2 ⟨⟨y, rfl⟩, M, q2, r2, p2, o2, g2⟩
  have X2 := Lib.hid (g2.heap X1.out (fun e => by omega))
  have N2 := Lib.hid (g2.heap N1.out (fun e => by omega))
  have HG := Lib.hid g2
  have HS := Lib.hid (⟨q2, r2, p2, o2⟩ : _ ∧ _ ∧ _ ∧ _)
  clear q2 r2 p2 o2 g2 q1 r h1
  obtain ⟨f0, f1, f2, f3, f4⟩ := frozen5 X2.out
  obtain ⟨d0, d1, d2, d3, d4⟩ := cells5 X2.out
  obtain ⟨e0', e1, e2, e3, e4⟩ := cells5 N2.out
  go_wp2
  have cg := chg5 w2 w.heap.size (.int .i64 x4) (.int .i64 x5) (.int .i64 x6) (.int .u32 x7) (.int .i64 x8)
  refine ret_pk rfl rfl (put5 X2.out) ⟨rfl, ?_⟩
  generalize ((((w2.setCell ⟨w.heap.size, 0, none⟩ (.int .i64 x4)).setCell ⟨w.heap.size, 1, none⟩ (.int .i64 x5)).setCell ⟨w.heap.size, 2, none⟩ (.int .i64 x6)).setCell ⟨w.heap.size, 3, none⟩ (.int .u32 x7)).setCell ⟨w.heap.size, 4, none⟩ (.int .i64 x8) = w3 at *
  obtain ⟨q2, r2, p2, o2⟩ := HS.out
  rw [e0] at p2
  have pS : M.Perm S := List.Perm.cons_inv (p2.trans p)
  have q : QSC w2 k m n (.slice (some ⟨g, 0, none⟩) M.length c) S := ⟨⟨M, r2, pS, o2⟩, q2, fun e => hkg (by injection e with e; exact e.symm), (List.pairwise_cons.1 HQ.out.up).2, fun z hz => HQ.out.old z (List.mem_cons_of_mem _ hz), by have := HQ.out.few; rw [List.length_cons] at this; omega⟩
  refine ⟨_, q.frame cg (by omega) (fun j hj e => by have hj' : g = j := (by injection hj); exact absurd (show j = w.heap.size from e) (by omega)), rfl, ?_⟩
  have c0 : Chg (fun j => j = k ∨ (Value.slice (some ⟨g, 0, none⟩) L.length c).ownBlock = some j) w w2 := ((Chg.of B.out).trans (Chg.of (b2.out)) (fun _ _ e => e)).trans HG.out (fun j _ e => e.imp id (fun e => by rw [e]; rfl))
  exact c0.trans cg (fun j hj e => absurd (show j = w.heap.size from e) (by omega))
set_option maxHeartbeats 2000000 in
theorem pushC_full (k : Nat) (m n t r d : Int) (z0 z1 z2 z3 z4 : Int) (v : Value) (S : List It) (w : World) (h : QSC w k m n v S) (hm : m ≤ (S.length : Int)) : Calls Try.prog 27 #[.pointer (some ⟨k, 0, none⟩), .int .i64 t, .int .i64 r, .int .i64 d, .agg #[.int .i64 z0, .int .i64 z1, .int .i64 z2, .int .u32 z3, .int .i64 z4]] w fun e w' => e = .returned (.int .i64 6) ∧ Below w.heap.size w w' := by
  have H := Lib.hid h
  clear h
  go_enter Try.func27, Try.ntmps27
  go_wp2_with fail
  have B := Lib.hid (Shell.al (Below.refl w.heap.size w) (cbx z0 z1 z2 z3 z4))
  generalize w.alloc (.cells #[.int .i64 z0, .int .i64 z1, .int .i64 z2, .int .u32 z3, .int .i64 z4] 37 (0, 0)) = W at *
  have h := H.out.below B.out
  obtain ⟨L, rw, p, _⟩ := h.row
  obtain ⟨A, c, rfl⟩ := RowC.form rw
  have c2 : W.cell? ⟨k, 2, none⟩ = some (.slice A L.length c) := cell_of_row W k 2 _ _ _ h.blk
  have c0 : W.cell? ⟨k, 0, none⟩ = some (.int .i64 m) := cell_of_row W k 0 _ _ _ h.blk
  rw [← p.length_eq] at hm
  clear h rw p H
  go_region
  all_goals go_wp2
  go_ret
  exact ⟨rfl, B.out.drew⟩
set_option maxHeartbeats 4000000 in
theorem pushC_ok (k : Nat) (m n t r d : Int) (z0 z1 z2 z3 z4 : Int) (v : Value) (S : List It) (w : World) (h : QSC w k m n v S) (hm : (S.length : Int) < m) (hm2 : m ≤ 65536) (hn : 0 ≤ n ∧ n < 4611686018427387904) :
    Calls Try.prog 27 #[.pointer (some ⟨k, 0, none⟩), .int .i64 t, .int .i64 r, .int .i64 d, .agg #[.int .i64 z0, .int .i64 z1, .int .i64 z2, .int .u32 z3, .int .i64 z4]] w fun e w' => e = .returned (.int .i64 0) ∧
    ∃ v', QSC w' k m (n + 1) v' (ins ⟨t, r, d, n, z0, z1, z2, z3, z4⟩ S) ∧ (∀ j, v'.ownBlock = some j → v.ownBlock = some j ∨ w.heap.size ≤ j) ∧ Chg (fun j => j = k ∨ v.ownBlock = some j) w w' := by
  have H := Lib.hid h
  clear h
  go_enter Try.func27, Try.ntmps27
  go_wp2_with fail
  have B := Lib.hid (Shell.al (Below.refl w.heap.size w) (cbx z0 z1 z2 z3 z4))
  have X0 := Lib.hid (heap_alloc_new w (cbx z0 z1 z2 z3 z4))
  generalize w.alloc (.cells #[.int .i64 z0, .int .i64 z1, .int .i64 z2, .int .u32 z3, .int .i64 z4] 37 (0, 0)) = W at *
  have h := H.out.below B.out
  obtain ⟨L, rw, p, o⟩ := h.row
  have q0 := h.blk
  have own := h.own
  obtain ⟨A, c, hv⟩ := RowC.form rw
  have c2 : W.cell? ⟨k, 2, none⟩ = some v := cell_of_row W k 2 _ _ _ q0
  have c0 : W.cell? ⟨k, 0, none⟩ = some (.int .i64 m) := cell_of_row W k 0 _ _ _ q0
  have c1 : W.cell? ⟨k, 1, none⟩ = some (.int .i64 n) := cell_of_row W k 1 _ _ _ q0
  have hl : (L.length : Int) < m := by rw [p.length_eq]; exact hm
  have P := Lib.hid (hPushC_any k m n v L ⟨t, r, d, n, z0, z1, z2, z3, z4⟩ W.drew.drew q0 (Row.drew (Row.drew rw)) own (by omega) o)
  have LT := Lib.hid H.out.lt
  have HS := Lib.hid h
  have HP := Lib.hid p
  have HV := Lib.hid hv
  rw [hv] at c2
  dsimp only at P
  clear h rw p o q0 own hm H
  generalize L.length = l at *
  go_region
  go_wp2_with fail
  have C1 := Lib.hid c1
  have Z1 := Lib.hid (cells5 X0.out)
  clear c0 c1 c2 hv
  have lk : ¬ k = w.heap.size := by have := LT.out.1; omega
  have lo : v.ownBlock ≠ some w.heap.size := fun e => by have := LT.out.2 _ e; omega
  go_region_held3 (fun w' => w'.cell? ⟨k, 1, none⟩ = some (.int .i64 n) ∧ w'.cell? ⟨w.heap.size, 0, none⟩ = some (.int .i64 z0) ∧ w'.cell? ⟨w.heap.size, 1, none⟩ = some (.int .i64 z1) ∧ w'.cell? ⟨w.heap.size, 2, none⟩ = some (.int .i64 z2) ∧ w'.cell? ⟨w.heap.size, 3, none⟩ = some (.int .u32 z3) ∧ w'.cell? ⟨w.heap.size, 4, none⟩ = some (.int .i64 z4)) (first | exact ⟨C1.out, Z1.out⟩ | exact ⟨K1.out, Z2.out⟩) (first
    | (go_at_call 43; (with_reducible refine P.out.mono ?_); rintro e w1 ⟨rfl, g, c', M, q1, r1, p1, o1, hkg, a1, g1⟩; have k1 : w1.cell? ⟨k, 1, none⟩ = some (.int .i64 n) := cell_of_row w1 k 1 _ _ _ q1; have f1 := frozen_of_row w1 k 1 _ _ q1; have K1 := Lib.hid k1; have Z2 := Lib.hid (cells5 (g1.heap (show W.drew.drew.heap[w.heap.size]? = _ from X0.out) (fun e => e.elim (fun e => lk e.symm) lo))); have Q1 := Lib.hid q1; have R1 := Lib.hid r1; have P1 := Lib.hid p1; have O1 := Lib.hid o1; have HKG := Lib.hid hkg; have A1 := Lib.hid a1; have G1 := Lib.hid g1; clear q1 r1 p1 o1 hkg a1 g1))
  go_wp2
  go_ret
  have pp : M.Perm (ins ⟨t, r, d, n, z0, z1, z2, z3, z4⟩ S) := P1.out.trans ((HP.out.cons _).trans (ins_perm _ _).symm)
  have few : l < 65536 := by omega
  have ln : M.length = l + 1 := by
    rcases R1.out.2 with ⟨h, _⟩ | ⟨_, _, _, h, _⟩
    · cases h
    · injection h with _ h _; exact h.symm
  refine ⟨rfl, .slice (some ⟨g, 0, none⟩) (l + 1) c', ⟨⟨M, Row.of_block R1.out (fun j hj => Go.heap_setCell_other w1 ⟨k, 1, none⟩ j _ (fun e => HKG.out (by injection hj with hj; exact (hj.trans e).symm))), pp, O1.out⟩, Go.heap_setCell_same w1 k 1 _ _ _ Q1.out, fun e => HKG.out (by injection e with e; exact e.symm), ins_sorted HS.out.up HS.out.old, fun y hy => ?_, by rw [← pp.length_eq, ln]; omega⟩, fun j hj => ?_, ?_⟩
  · rcases List.mem_cons.1 ((ins_perm _ S).mem_iff.1 hy) with rfl | hy
    · exact Int.lt_succ n
    · have := HS.out.old y hy; omega
  · injection hj with hj
    rcases A1.out with a | a
    · exact Or.inl (hj ▸ a)
    · exact Or.inr (Nat.le_trans B.out.size (hj ▸ a))
  · exact Chg.setCell (X := fun j => j = k ∨ v.ownBlock = some j) (p := ⟨k, 1, none⟩) ((Chg.of B.out).trans (Chg.of_drew (Chg.of_drew G1.out)) (fun _ _ e => e)) (Or.inl rfl) _
end Go.Proofs.Ytmkgnkbcdkcboaa.QueueW
