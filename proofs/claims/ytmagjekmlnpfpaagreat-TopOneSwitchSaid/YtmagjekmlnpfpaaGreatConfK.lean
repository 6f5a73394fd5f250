/- The document's own: rows, entries at 5 and at 6. -/
import Derived.Test.YtmagjekmlnpfpaaGreatTake
import Derived.Test.YtmagjekmlnpfpaaGreatConfF
namespace Go.Proofs.YtmagjekmlnpfpaaGreat.ConfW
open Shell (takeR skipR aput lset)
open Go.RowKit Shell
set_option maxHeartbeats 4000000 in
theorem refRows_any (c : Cfg) (D E L : Option Addr) (nd cd ne ce nl cl : Nat) (w : World) (h : CM w c D E L nd cd ne ce nl cl) : Calls Tryz.prog 51 #[.agg #[.int .i64 c.hosts, .int .i64 c.cycle, .int .i64 c.delay, .int .i64 c.window, .int .i64 c.precision, .slice D nd cd, .slice E ne ce, .slice L nl cl, .int .i64 c.queue]] w fun r w' => r = .returned (.bool (rowsOk c)) ∧ Below w.heap.size w w' := by
  have HD := Lib.hid h.hd
  have HN := Lib.hid h.nD
  have hm : nd ≤ 9223372036854775807 := h.mD
  clear h
  have X := Lib.hid (CX.start (w0 := w) (c := c) (D := D) (E := E) (L := L) (nd := nd) (cd := cd) (ne := ne) (ce := ce) (nl := nl) (cl := cl))
  by_cases hne : (nd : Int) = c.hosts
  · have HR : rowsOk c = c.delays.all (rowOk c) := by unfold rowsOk; rw [← HN.out, decide_eq_true hne]; rfl
    generalize hq : rowsOk c = q at *
    have HQ := Lib.hid HR
    clear HR hq
    have hne2 : ((nd : Int) != c.hosts) = false := by rw [bne_eq_false_iff_eq]; exact hne
    clear hne
    go_enter Tryz.func51, Tryz.ntmps51
    go_wp2
    go_loopw [3] (fun iv wr => ∃ (k : Nat), k ≤ nd ∧ iv = .int .i64 k ∧ Hid (CX w c D E L nd cd ne ce nl cl wr) ∧ Hid (∀ j r, j < k → c.delays[j]? = some r → rowOk c r = true)) (fun iv _ => nd - (intOf iv).toNat)
    case atStart => exact ⟨0, Nat.zero_le _, rfl, X, Lib.hid (fun j r hj => by omega)⟩
    case round =>
      clear X
      obtain ⟨k, hk, rfl, X, HI⟩ := hrel
      have hXs := X.out.s
      obtain ⟨-, a0, a1, a2, a3, a4, a5, a6, a7, a8⟩ := hXs
      by_cases hlt : (k : Int) < (nd : Int)
      · obtain ⟨r, hr⟩ : ∃ r, c.delays[k]? = some r := ⟨_, List.getElem?_eq_getElem (by rw [← HN.out]; omega)⟩
        obtain ⟨a, A, cp, rfl, hcell, hrow, hrm, hrc, hrz⟩ := (HD.out.below X.out.b) k r hr
        have HX := Lib.hid hr
        have HRW := Lib.hid hrow
        have HCE := Lib.hid hcell
        clear hr hrow hrc hrz
        generalize hrl : r.length = m at *
        by_cases h2 : m = 2
        · subst h2
          have HRL := Lib.hid hrl
          clear hrl
          go_wp2
          obtain ⟨w0, hw0⟩ : ∃ w0, w0 = wr := ⟨_, rfl⟩
          subst hw0
          go_loopw [4] (fun iv wr => ∃ (i : Nat), i ≤ 2 ∧ iv = .int .i64 i ∧ Hid (Below w0.heap.size w0 wr) ∧ Hid (∀ j x, j < i → r[j]? = some x → btw x 0 c.delay = true)) (fun iv _ => 2 - (intOf iv).toNat)
          case atStart => exact ⟨0, Nat.zero_le _, rfl, Lib.hid (Below.refl _ _), Lib.hid (fun j x hj => by omega)⟩
          case round =>
            obtain ⟨i, hi, rfl, B, HJ⟩ := hrel
            have X2 := Lib.hid (X.out.next B.out)
            clear a0 a1 a2 a3 a4 a5 a6 a7 a8
            by_cases hlt2 : (i : Int) < 2
            · obtain ⟨x, hx⟩ : ∃ x, r[i]? = some x := ⟨_, List.getElem?_eq_getElem (by rw [HRL.out]; omega)⟩
              obtain ⟨ad, rfl, hc2, -⟩ := (HRW.out.below B.out) i x hx
              have HXX := Lib.hid hx
              clear hx
              have X3 := Lib.hid (X2.out.next (Below.refl _ _).drew)
              obtain ⟨-, a0, a1, a2, a3, a4, a5, a6, a7, a8⟩ := X3.out.s
              have hcell3 : wr.drew.cell? (a.add k) = some (.slice (some ad) 2 cp) := ((B.out.cell (Lib.lt_of_cell HCE.out)).trans HCE.out)
              have hc3 : wr.drew.cell? (ad.add i) = some (.int .i64 x) := hc2
              clear hcell hc2
              by_cases hx0 : x < 0
              · have HQ2 := Lib.hid (show q = false by
                  rw [HQ.out]
                  refine all_false HX.out ?_
                  unfold rowOk
                  rw [all_false (p := fun x => btw x 0 c.delay) HXX.out (btw_false (by omega)), Bool.and_false])
                go_wp2_with fail
                have e1 : decide (x < 0) = true := by rw [decide_eq_true_eq]; omega
                refine wp_region_held_drew (S := fun W : World => Hid (CX w c (some a) E L nd cd ne ce nl cl W) ∧ W.cell? ⟨w.heap.size, 0, none⟩ = some (.int .i64 c.hosts) ∧ W.cell? ⟨w.heap.size, 1, none⟩ = some (.int .i64 c.cycle) ∧ W.cell? ⟨w.heap.size, 2, none⟩ = some (.int .i64 c.delay) ∧ W.cell? ⟨w.heap.size, 3, none⟩ = some (.int .i64 c.window) ∧ W.cell? ⟨w.heap.size, 4, none⟩ = some (.int .i64 c.precision) ∧ W.cell? ⟨w.heap.size, 5, none⟩ = some (.slice (some a) nd cd) ∧ W.cell? ⟨w.heap.size, 6, none⟩ = some (.slice E ne ce) ∧ W.cell? ⟨w.heap.size, 7, none⟩ = some (.slice L nl cl) ∧ W.cell? ⟨w.heap.size, 8, none⟩ = some (.int .i64 c.queue) ∧ W.cell? (a.add k) = some (.slice (some ad) 2 cp) ∧ W.cell? (ad.add i) = some (.int .i64 x)) (by kernel_rfl) (⟨X3.out.s.1, a0, a1, a2, a3, a4, a5, a6, a7, a8, hcell3, hc3⟩) (fun hHeld => ?_)
                refine takeR 0 (some 29) ?_ ?_ ?_; rotate_left; (focus (intros; go_simp; (try with_reducible rfl)))
                simp only [aput, lset]
                refine takeR 1 (some 30) ?_ ?_ ?_; rotate_left; (focus (intros; go_simp; (try with_reducible rfl)))
                simp only [aput, lset]
                refine takeR 2 (some 31) ?_ ?_ ?_; rotate_left; (focus (intros; go_simp; (try with_reducible rfl)))
                simp only [aput, lset]
                refine takeR 3 (some 32) ?_ ?_ ?_; rotate_left; (focus (intros; go_simp; (try with_reducible rfl)))
                simp only [aput, lset]
                refine takeR 4 (some 33) ?_ ?_ ?_; rotate_left; (focus (intros; go_simp; (try with_reducible rfl)))
                simp only [aput, lset]
                refine takeR 5 (some 34) ?_ ?_ ?_; rotate_left; (focus (intros; go_simp; (try with_reducible rfl)))
                simp only [aput, lset]
                refine takeR 6 (some 35) ?_ ?_ ?_; rotate_left; (focus (intros; go_simp; (try with_reducible rfl)))
                simp only [aput, lset]
                refine takeR 7 (some 36) ?_ ?_ ?_; rotate_left; (focus (intros; go_simp; (try with_reducible rfl)))
                simp only [aput, lset]
                refine takeR 8 (some 37) ?_ ?_ ?_; rotate_left; (focus (intros; go_simp; (try with_reducible rfl)))
                simp only [aput, lset]
                refine takeR 9 (some 38) ?_ ?_ ?_; rotate_left; (focus (intros; go_simp; (try with_reducible rfl)))
                simp only [aput, lset]
                refine skipR 10 (some 39) ?_
                simp only [aput, lset]
                refine skipR 11 (some 40) ?_
                simp only [aput, lset]
                refine skipR 12 (some 41) ?_
                simp only [aput, lset]
                refine skipR 13 (some 42) ?_
                simp only [aput, lset]
                refine skipR 14 (some 43) ?_
                simp only [aput, lset]
                refine skipR 15 (some 44) ?_
                simp only [aput, lset]
                refine skipR 16 (some 45) ?_
                simp only [aput, lset]
                refine skipR 17 (some 46) ?_
                simp only [aput, lset]
                refine skipR 18 (some 47) ?_
                simp only [aput, lset]
                refine skipR 19 (some 48) ?_
                simp only [aput, lset]
                refine skipR 20 (some 49) ?_
                simp only [aput, lset]
                refine takeR 21 (some 50) ?_ ?_ ?_; rotate_left; (focus (intros; go_simp; (try with_reducible rfl)))
                simp only [aput, lset]
                refine wpAnyH_done (by kernel_rfl) ?_ _
                go_wp2
                go_ret
                exact ⟨by rw [HQ2.out]; rfl, X3.out.b⟩
              · by_cases hx1 : c.delay < x
                · have HQ2 := Lib.hid (show q = false by
                    rw [HQ.out]
                    refine all_false HX.out ?_
                    unfold rowOk
                    rw [all_false (p := fun x => btw x 0 c.delay) HXX.out (btw_false (by omega)), Bool.and_false])
                  go_wp2_with fail
                  have e1 : decide (x < 0) = false := by rw [decide_eq_false_iff_not]; omega
                  have e2 : decide (c.delay < x) = true := by rw [decide_eq_true_eq]; omega
                  refine wp_region_held_drew (S := fun W : World => Hid (CX w c (some a) E L nd cd ne ce nl cl W) ∧ W.cell? ⟨w.heap.size, 0, none⟩ = some (.int .i64 c.hosts) ∧ W.cell? ⟨w.heap.size, 1, none⟩ = some (.int .i64 c.cycle) ∧ W.cell? ⟨w.heap.size, 2, none⟩ = some (.int .i64 c.delay) ∧ W.cell? ⟨w.heap.size, 3, none⟩ = some (.int .i64 c.window) ∧ W.cell? ⟨w.heap.size, 4, none⟩ = some (.int .i64 c.precision) ∧ W.cell? ⟨w.heap.size, 5, none⟩ = some (.slice (some a) nd cd) ∧ W.cell? ⟨w.heap.size, 6, none⟩ = some (.slice E ne ce) ∧ W.cell? ⟨w.heap.size, 7, none⟩ = some (.slice L nl cl) ∧ W.cell? ⟨w.heap.size, 8, none⟩ = some (.int .i64 c.queue) ∧ W.cell? (a.add k) = some (.slice (some ad) 2 cp) ∧ W.cell? (ad.add i) = some (.int .i64 x)) (by kernel_rfl) (⟨X3.out.s.1, a0, a1, a2, a3, a4, a5, a6, a7, a8, hcell3, hc3⟩) (fun hHeld => ?_)
                  refine takeR 0 (some 29) ?_ ?_ ?_; rotate_left; (focus (intros; go_simp; (try with_reducible rfl)))
                  simp only [aput, lset]
                  refine takeR 1 (some 30) ?_ ?_ ?_; rotate_left; (focus (intros; go_simp; (try with_reducible rfl)))
                  simp only [aput, lset]
                  refine takeR 2 (some 31) ?_ ?_ ?_; rotate_left; (focus (intros; go_simp; (try with_reducible rfl)))
                  simp only [aput, lset]
                  refine takeR 3 (some 32) ?_ ?_ ?_; rotate_left; (focus (intros; go_simp; (try with_reducible rfl)))
                  simp only [aput, lset]
                  refine takeR 4 (some 33) ?_ ?_ ?_; rotate_left; (focus (intros; go_simp; (try with_reducible rfl)))
                  simp only [aput, lset]
                  refine takeR 5 (some 34) ?_ ?_ ?_; rotate_left; (focus (intros; go_simp; (try with_reducible rfl)))
                  simp only [aput, lset]
                  refine takeR 6 (some 35) ?_ ?_ ?_; rotate_left; (focus (intros; go_simp; (try with_reducible rfl)))
                  simp only [aput, lset]
                  refine takeR 7 (some 36) ?_ ?_ ?_; rotate_left; (focus (intros; go_simp; (try with_reducible rfl)))
                  simp only [aput, lset]
                  refine takeR 8 (some 37) ?_ ?_ ?_; rotate_left; (focus (intros; go_simp; (try with_reducible rfl)))
                  simp only [aput, lset]
                  refine takeR 9 (some 38) ?_ ?_ ?_; rotate_left; (focus (intros; go_simp; (try with_reducible rfl)))
                  simp only [aput, lset]
                  refine takeR 10 (some 39) ?_ ?_ ?_; rotate_left; (focus (intros; go_simp; (try with_reducible rfl)))
                  simp only [aput, lset]
                  refine takeR 11 (some 40) ?_ ?_ ?_; rotate_left; (focus (intros; go_simp; (try with_reducible rfl)))
                  simp only [aput, lset]
                  refine takeR 12 (some 41) ?_ ?_ ?_; rotate_left; (focus (intros; go_simp; (try with_reducible rfl)))
                  simp only [aput, lset]
                  refine takeR 13 (some 42) ?_ ?_ ?_; rotate_left; (focus (intros; go_simp; (try with_reducible rfl)))
                  simp only [aput, lset]
                  refine takeR 14 (some 43) ?_ ?_ ?_; rotate_left; (focus (intros; go_simp; (try with_reducible rfl)))
                  simp only [aput, lset]
                  refine takeR 15 (some 44) ?_ ?_ ?_; rotate_left; (focus (intros; go_simp; (try with_reducible rfl)))
                  simp only [aput, lset]
                  refine takeR 16 (some 45) ?_ ?_ ?_; rotate_left; (focus (intros; go_simp; (try with_reducible rfl)))
                  simp only [aput, lset]
                  refine takeR 17 (some 46) ?_ ?_ ?_; rotate_left; (focus (intros; go_simp; (try with_reducible rfl)))
                  simp only [aput, lset]
                  refine takeR 18 (some 47) ?_ ?_ ?_; rotate_left; (focus (intros; go_simp; (try with_reducible rfl)))
                  simp only [aput, lset]
                  refine takeR 19 (some 48) ?_ ?_ ?_; rotate_left; (focus (intros; go_simp; (try with_reducible rfl)))
                  simp only [aput, lset]
                  refine takeR 20 (some 49) ?_ ?_ ?_; rotate_left; (focus (intros; go_simp; (try with_reducible rfl)))
                  simp only [aput, lset]
                  refine takeR 21 (some 50) ?_ ?_ ?_; rotate_left; (focus (intros; go_simp; (try with_reducible rfl)))
                  simp only [aput, lset]
                  refine wpAnyH_done (by kernel_rfl) ?_ _
                  go_wp2
                  go_ret
                  exact ⟨by rw [HQ2.out]; rfl, X3.out.b⟩
                · have HJ2 := Lib.hid (show ∀ (j : Nat) (y : Int), j < i + 1 → r[j]? = some y → btw y 0 c.delay = true by
                    intro j y hj hy
                    by_cases hji : j = i
                    · subst hji
                      rw [HXX.out] at hy
                      cases hy
                      exact btw_iff.2 ⟨by omega, by omega⟩
                    · exact HJ.out j y (by omega) hy)
                  have B3 := Lib.hid (B.out.trans ((Below.refl wr.heap.size wr).drew.mono B.out.size))
                  go_wp2_with fail
                  have e1 : decide (x < 0) = false := by rw [decide_eq_false_iff_not]; omega
                  have e2 : decide (c.delay < x) = false := by rw [decide_eq_false_iff_not]; omega
                  refine wp_region_held_drew (S := fun W : World => Hid (CX w c (some a) E L nd cd ne ce nl cl W) ∧ W.cell? ⟨w.heap.size, 0, none⟩ = some (.int .i64 c.hosts) ∧ W.cell? ⟨w.heap.size, 1, none⟩ = some (.int .i64 c.cycle) ∧ W.cell? ⟨w.heap.size, 2, none⟩ = some (.int .i64 c.delay) ∧ W.cell? ⟨w.heap.size, 3, none⟩ = some (.int .i64 c.window) ∧ W.cell? ⟨w.heap.size, 4, none⟩ = some (.int .i64 c.precision) ∧ W.cell? ⟨w.heap.size, 5, none⟩ = some (.slice (some a) nd cd) ∧ W.cell? ⟨w.heap.size, 6, none⟩ = some (.slice E ne ce) ∧ W.cell? ⟨w.heap.size, 7, none⟩ = some (.slice L nl cl) ∧ W.cell? ⟨w.heap.size, 8, none⟩ = some (.int .i64 c.queue) ∧ W.cell? (a.add k) = some (.slice (some ad) 2 cp) ∧ W.cell? (ad.add i) = some (.int .i64 x)) (by kernel_rfl) (⟨X3.out.s.1, a0, a1, a2, a3, a4, a5, a6, a7, a8, hcell3, hc3⟩) (fun hHeld => ?_)
                  refine takeR 0 (some 29) ?_ ?_ ?_; rotate_left; (focus (intros; go_simp; (try with_reducible rfl)))
                  simp only [aput, lset]
                  refine takeR 1 (some 30) ?_ ?_ ?_; rotate_left; (focus (intros; go_simp; (try with_reducible rfl)))
                  simp only [aput, lset]
                  refine takeR 2 (some 31) ?_ ?_ ?_; rotate_left; (focus (intros; go_simp; (try with_reducible rfl)))
                  simp only [aput, lset]
                  refine takeR 3 (some 32) ?_ ?_ ?_; rotate_left; (focus (intros; go_simp; (try with_reducible rfl)))
                  simp only [aput, lset]
                  refine takeR 4 (some 33) ?_ ?_ ?_; rotate_left; (focus (intros; go_simp; (try with_reducible rfl)))
                  simp only [aput, lset]
                  refine takeR 5 (some 34) ?_ ?_ ?_; rotate_left; (focus (intros; go_simp; (try with_reducible rfl)))
                  simp only [aput, lset]
                  refine takeR 6 (some 35) ?_ ?_ ?_; rotate_left; (focus (intros; go_simp; (try with_reducible rfl)))
                  simp only [aput, lset]
                  refine takeR 7 (some 36) ?_ ?_ ?_; rotate_left; (focus (intros; go_simp; (try with_reducible rfl)))
                  simp only [aput, lset]
                  refine takeR 8 (some 37) ?_ ?_ ?_; rotate_left; (focus (intros; go_simp; (try with_reducible rfl)))
                  simp only [aput, lset]
                  refine takeR 9 (some 38) ?_ ?_ ?_; rotate_left; (focus (intros; go_simp; (try with_reducible rfl)))
                  simp only [aput, lset]
                  refine takeR 10 (some 39) ?_ ?_ ?_; rotate_left; (focus (intros; go_simp; (try with_reducible rfl)))
                  simp only [aput, lset]
                  refine takeR 11 (some 40) ?_ ?_ ?_; rotate_left; (focus (intros; go_simp; (try with_reducible rfl)))
                  simp only [aput, lset]
                  refine takeR 12 (some 41) ?_ ?_ ?_; rotate_left; (focus (intros; go_simp; (try with_reducible rfl)))
                  simp only [aput, lset]
                  refine takeR 13 (some 42) ?_ ?_ ?_; rotate_left; (focus (intros; go_simp; (try with_reducible rfl)))
                  simp only [aput, lset]
                  refine takeR 14 (some 43) ?_ ?_ ?_; rotate_left; (focus (intros; go_simp; (try with_reducible rfl)))
                  simp only [aput, lset]
                  refine takeR 15 (some 44) ?_ ?_ ?_; rotate_left; (focus (intros; go_simp; (try with_reducible rfl)))
                  simp only [aput, lset]
                  refine takeR 16 (some 45) ?_ ?_ ?_; rotate_left; (focus (intros; go_simp; (try with_reducible rfl)))
                  simp only [aput, lset]
                  refine takeR 17 (some 46) ?_ ?_ ?_; rotate_left; (focus (intros; go_simp; (try with_reducible rfl)))
                  simp only [aput, lset]
                  refine takeR 18 (some 47) ?_ ?_ ?_; rotate_left; (focus (intros; go_simp; (try with_reducible rfl)))
                  simp only [aput, lset]
                  refine takeR 19 (some 48) ?_ ?_ ?_; rotate_left; (focus (intros; go_simp; (try with_reducible rfl)))
                  simp only [aput, lset]
                  refine takeR 20 (some 49) ?_ ?_ ?_; rotate_left; (focus (intros; go_simp; (try with_reducible rfl)))
                  simp only [aput, lset]
                  refine takeR 21 (some 50) ?_ ?_ ?_; rotate_left; (focus (intros; go_simp; (try with_reducible rfl)))
                  simp only [aput, lset]
                  refine wpAnyH_done (by kernel_rfl) ?_ _
                  go_wp2
                  go_roundw
                  case rel => exact ⟨i + 1, by omega, by go_num, B3, HJ2⟩
                  case measure => simp [intOf]; omega
            · have HI2 := Lib.hid (show ∀ (j : Nat) (y : List Int), j < k + 1 → c.delays[j]? = some y → rowOk c y = true by
                intro j y hj hy
                by_cases hji : j = k
                · subst hji
                  rw [HX.out] at hy
                  cases hy
                  unfold rowOk
                  rw [decide_eq_true HRL.out, Bool.true_and]
                  exact all_true (fun j x hx => HJ.out j x (by have := lt_of_get hx; rw [HRL.out] at this; omega) hx)
                · exact HI.out j y (by omega) hy)
              go_wp2
              exact ⟨⟨k + 1, by omega, by go_num, X2, HI2⟩, by simp [intOf]; omega⟩
        · have hm2 : ((m : Int) != 2) = true := by rw [bne_iff_ne]; omega
          have HQ2 := Lib.hid (show q = false by
            rw [HQ.out]
            refine all_false HX.out ?_
            unfold rowOk
            rw [hrl, decide_eq_false h2, Bool.false_and])
          clear hrl h2
          go_wp2
          go_ret
          exact ⟨by rw [HQ2.out]; rfl, X.out.b⟩
      · have HQ2 := Lib.hid (show q = true by
          rw [HQ.out]
          exact all_true (fun j r hj => HI.out j r (by have := lt_of_get hj; rw [← HN.out] at this; omega) hj))
        go_wp2
        go_ret
        exact ⟨by rw [HQ2.out]; rfl, X.out.b⟩
  · have HR : rowsOk c = false := by unfold rowsOk; rw [← HN.out, decide_eq_false hne]; rfl
    rw [HR]
    have hne2 : ((nd : Int) != c.hosts) = true := by rw [bne_iff_ne]; exact hne
    clear hne HR
    go_enter Tryz.func51, Tryz.ntmps51
    go_wp2
    go_ret
    exact ⟨rfl, X.out.b⟩
end Go.Proofs.YtmagjekmlnpfpaaGreat.ConfW


