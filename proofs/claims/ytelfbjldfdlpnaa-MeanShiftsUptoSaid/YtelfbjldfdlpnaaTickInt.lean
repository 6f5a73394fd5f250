/- The document's numbers: Add, Turn, Int. -/
import Derived.Test.YtelfbjldfdlpnaaTickRAdd
namespace Go.Proofs.Ytelfbjldfdlpnaa.TickW
open Go.RowKit
theorem refAdd_any (a b : Int) (va vb : Value) (w : World) (ha : WV w va a) (hb : WV w vb b) (la : (dl a.natAbs).length ≤ 900) (lb : (dl b.natAbs).length ≤ 900) :
    Calls Try.prog 41 #[va, vb] w fun e w' => (∃ v, e = .returned v ∧ WV w' v (a + b)) ∧ Below w.heap.size w w' := by
  obtain ⟨A, c, rfl, hA, _⟩ := ha
  obtain ⟨B, c2, rfl, hB, _⟩ := hb
  refine (refAdd_raw A B c c2 _ _ _ _ w hA hB la lb).mono ?_
  rintro e w' ⟨⟨A', c', m, n, rfl, hd, hc, h⟩, hw⟩
  have hk : m = (a + b).natAbs ∧ (n && decide (0 < m)) = decide (a + b < 0) := by
    rcases h with ⟨h1, h2, h3⟩ | ⟨h1, h2, h3, h4⟩ | ⟨h1, h2, h3, h4⟩
    · rw [decide_eq_decide] at h1
      subst h2; subst h3
      refine ⟨by omega, ?_⟩
      rw [← Bool.decide_and, decide_eq_decide]
      omega
    · rw [Ne, decide_eq_decide] at h1
      subst h3; subst h4
      refine ⟨by omega, ?_⟩
      rw [← Bool.decide_and, decide_eq_decide]
      omega
    · rw [Ne, decide_eq_decide] at h1
      subst h3; subst h4
      refine ⟨by omega, ?_⟩
      rw [← Bool.decide_and, decide_eq_decide]
      omega
  obtain ⟨h1, h2⟩ := hk
  subst h1
  exact ⟨⟨_, rfl, A', c', by rw [h2], hd, hc⟩, hw⟩
set_option maxHeartbeats 4000000 in
set_option maxRecDepth 100000 in
theorem refTurn_raw (A : Option Addr) (c x : Nat) (p : Bool) (w : World) (ha : DL w A (dl x)) (hc : (dl x).length ≤ c) (hl : (dl x).length ≤ 1000) :
    Calls Try.prog 51 #[.agg #[.slice A (dl x).length c, .bool p]] w fun e w' => (e = .returned (.agg #[.slice A (dl x).length c, .bool (!p && decide (0 < x))]) ∧ DL w' A (dl x)) ∧ Below w.heap.size w w' := by
  have HA := Lib.hid ha
  have HC := Lib.hid hc
  have HL := Lib.hid hl
  clear ha hc hl
  go_enter Try.func51, Try.ntmps51
  go_upto_region 1 with (fail)
  have hb0 := al (al (Below.refl w.heap.size w) (Obj.cells #[.slice A (dl x).length c, .bool p] 62)) (Obj.cells #[.slice none 0 0, .bool false] 62)
  have h1 := heap_alloc2_old w (Obj.cells #[.slice A (dl x).length c, .bool p] 62) (Obj.cells #[.slice none 0 0, .bool false] 62)
  have h2 := heap_alloc2_new w (Obj.cells #[.slice A (dl x).length c, .bool p] 62) (Obj.cells #[.slice none 0 0, .bool false] 62)
  generalize (w.alloc (Obj.cells #[.slice A (dl x).length c, .bool p] 62)).alloc (Obj.cells #[.slice none 0 0, .bool false] 62) = W0 at *
  have BW := Lib.hid hb0
  have R := Lib.hid h2
  have HA0 := Lib.hid (HA.out.below hb0)
  have g0 : W0.cell? ⟨w.heap.size, 0, none⟩ = some (.slice A (dl x).length c) := cell_of_row W0 _ 0 _ _ _ h1
  have g1 : W0.cell? ⟨w.heap.size, 1, none⟩ = some (.bool p) := cell_of_row W0 _ 1 _ _ _ h1
  clear h1 h2 hb0
  have T := trim_any A c (dl x) (!p) W0 HA0.out (dl_lt x) HC.out HL.out
  rw [val_dl] at T
  go_wp2_with (first | (go_at_call 47; (with_reducible refine T.mono ?_); rintro e w2 ⟨rfl, hd2, hc2, b2⟩; have HD2 := Lib.hid hd2; have r2 := Lib.hid (row_below b2 R.out); have B2 := Lib.hid (BW.out.trans (b2.mono BW.out.size)); have z0 : w2.cell? ⟨w.heap.size + 1, 0, none⟩ = some (.slice none 0 0) := cell_of_row w2 (w.heap.size + 1) 0 _ _ _ r2.out; have z1 : w2.cell? ⟨w.heap.size + 1, 1, none⟩ = some (.bool false) := cell_of_row w2 (w.heap.size + 1) 1 _ _ _ r2.out; have fr0 := frozen_of_row w2 (w.heap.size + 1) 0 _ _ r2.out; have fr1 := frozen_of_row w2 (w.heap.size + 1) 1 _ _ r2.out; clear hd2 hc2 b2))
  exact ret_ref_set rfl rfl r2.out ⟨⟨rfl, dl_store HD2.out r2.out _ _⟩, setRef_below B2.out (by omega) _ _⟩
theorem refTurn_any (a : Int) (va : Value) (w : World) (ha : WV w va a) (la : (dl a.natAbs).length ≤ 900) :
    Calls Try.prog 51 #[va] w fun e w' => (∃ v, e = .returned v ∧ WV w' v (-a)) ∧ Below w.heap.size w w' := by
  obtain ⟨A, c, rfl, hA, hc⟩ := ha
  refine (refTurn_raw A c _ _ w hA hc (by omega)).mono ?_
  rintro e w' ⟨⟨rfl, hd⟩, hw⟩
  refine ⟨⟨_, rfl, A, c, ?_, by rw [Int.natAbs_neg]; exact hd, by rw [Int.natAbs_neg]; exact hc⟩, hw⟩
  rw [Int.natAbs_neg]
  have e : (!decide (a < 0) && decide (0 < a.natAbs)) = decide (-a < 0) := by
    rw [← decide_not, ← Bool.decide_and, decide_eq_decide]
    omega
  rw [e]
end Go.Proofs.Ytelfbjldfdlpnaa.TickW

