/- The document's own ReadControl. -/
import Derived.Test.YtjejljjahmbhiaaFrameEq
namespace Go.Proofs.Ytjejljjahmbhiaa.FrameW
open Go.RowKit
theorem sl2 {l : List Int} {x y : Int} (h0 : l[0]? = some x) (h1 : l[1]? = some y) : sl l 0 2 = [x, y] := by
  match l, h0, h1 with
  | a :: b :: r, h0, h1 =>
    simp at h0 h1
    subst h0; subst h1
    rfl
theorem sl1 {l : List Int} {p : Nat} {x : Int} (h : l[p]? = some x) : sl l p (p + 1) = [x] := by
  unfold sl
  have hj : p < l.length := by
    rcases Nat.lt_or_ge p l.length with h1 | h1
    · exact h1
    · rw [List.getElem?_eq_none h1] at h; cases h
  rw [List.getElem?_eq_getElem hj] at h
  rw [List.drop_eq_getElem_cons hj, Option.some.inj h, show p + 1 - p = 1 by omega]
  rfl
theorem val1 {x : Int} (h : 0 ≤ x) : ((val [x] : Nat) : Int) = x := by
  show (((0 * 256 + x.toNat : Nat)) : Int) = x
  omega
theorem wh_yes {l : List Int} {x y : Int} (h0 : l[0]? = some x) (h1 : l[1]? = some y) (hl : 2 ≤ l.length) : (wh l = 1 ↔ x = 137 ∧ y = 29) ∧ (wh l = 2 ↔ x = 8 ∧ y = 0) := by
  unfold wh
  rw [if_pos hl, sl2 h0 h1]
  constructor
  · constructor
    · intro h
      split at h
      · rename_i h2; simp at h2; exact h2
      · split at h <;> cases h
    · rintro ⟨rfl, rfl⟩; rw [if_pos rfl]
  · constructor
    · intro h
      split at h
      · cases h
      · split at h
        · rename_i h2; simp at h2; exact h2
        · cases h
    · rintro ⟨rfl, rfl⟩; rw [if_neg (by decide), if_pos rfl]
theorem okS_iff {l : List Int} : okS l = true ↔ val (sl l (l.length - 4) l.length) = crc (sl l 0 (l.length - 4)) := by unfold okS; rw [decide_eq_true_iff]
theorem rc_form {l : List Int} (h : (l.length : Int) < 34 ∨ (l.length : Int) > 34 ∨ wh l ≠ 1) : rcE l = 2 ∧ rcV l = CV 0 0 0 0 0 := by
  have e := chk_form h
  obtain ⟨a, b⟩ := rc_no (l := l) (by rw [e]; decide)
  exact ⟨by rw [a, e], b⟩
theorem rd_form {l : List Int} (h : (l.length : Int) < 64 ∨ (l.length : Int) > 1518 ∨ wh l ≠ 2) : rdE l = 2 ∧ rdV l = DZ := by
  have e := chk_form h
  obtain ⟨a, b⟩ := rd_no (l := l) (by rw [e]; decide)
  exact ⟨by rw [a, e], b⟩
set_option maxHeartbeats 8000000 in
theorem refReadControl_any (A : Option Addr) (c : Nat) (xs : List Int) (w : World) (h : BL w A xs) (hl : xs.length ≤ 9223372036854775807) (hc : xs.length ≤ c) :
    Calls Try.prog 21 #[.slice A xs.length c] w fun e w' => e = .returned (.tuple #[rcV xs, .int .i64 (rcE xs)]) ∧ Below w.heap.size w w' := by
  by_cases hlen : xs.length = 34
  · obtain ⟨a, rfl⟩ := h.some (by omega)
    have hy := h.by
    have hW := h.below (al (Below.refl w.heap.size w) (cbox 0 0 0 0 0))
    obtain ⟨x0, hx0⟩ : ∃ x, xs[0]? = some x := ⟨_, List.getElem?_eq_getElem (by omega)⟩
    obtain ⟨x1, hx1⟩ : ∃ x, xs[1]? = some x := ⟨_, List.getElem?_eq_getElem (by omega)⟩
    obtain ⟨x2, hx2⟩ : ∃ x, xs[2]? = some x := ⟨_, List.getElem?_eq_getElem (by omega)⟩
    obtain ⟨x3, hx3⟩ : ∃ x, xs[3]? = some x := ⟨_, List.getElem?_eq_getElem (by omega)⟩
    have hwh := wh_yes hx0 hx1 (by omega)
    have hc0 : (w.alloc (cbox 0 0 0 0 0)).cell? a = some (.int .u8 x0) := by
      obtain ⟨b, hb, hcc, -⟩ := hW 0 x0 hx0
      cases hb; exact hcc
    have hc1 : (w.alloc (cbox 0 0 0 0 0)).cell? ⟨a.block, a.off + 1, none⟩ = some (.int .u8 x1) := by
      obtain ⟨b, hb, hcc, -⟩ := hW 1 x1 hx1
      cases hb; exact hcc
    by_cases e0 : x0 = 137
    · by_cases e1 : x1 = 29
      · have hw1 := hwh.1.2 ⟨e0, e1⟩
        have SS := refsum_any (some a) c 34 xs _ hW hlen.symm hl hc (by omega)
        cases hs : okS xs with
        | false =>
          have hk : chk xs 1 34 34 = 8 := chk_sum (by omega) (by omega) hw1 (fun e => by rw [okS_iff.2 e] at hs; cases hs)
          obtain ⟨hE, hV⟩ := rc_no (l := xs) (by rw [hk]; decide)
          rw [hE, hV, hk]
          rw [hs] at SS
          rw [hlen]
          subst e0; subst e1
          have HS := Lib.hid SS
          clear SS h hl hc hy hW hwh hw1 hx2 hx3 hs hk hE hV
          go_enter Try.func21, Try.ntmps21
          go_wp2_with fail
          refine HS.out.mono ?_
          rintro e w1 ⟨rfl, b1⟩
          have X1 := Lib.hid (show w1.heap[w.heap.size]? = some (cbox 0 0 0 0 0) from row_below b1 (heap_alloc_new w _))
          have B1 := Lib.hid ((al (Below.refl w.heap.size w) (cbox 0 0 0 0 0)).trans (b1.mono (by simp)))
          obtain ⟨c0, c1, c2, c3, c4⟩ := cells5 X1.out
          have f0 := frozen_of_row w1 w.heap.size 0 _ _ X1.out
          have f1 := frozen_of_row w1 w.heap.size 1 _ _ X1.out
          have f2 := frozen_of_row w1 w.heap.size 2 _ _ X1.out
          have f3 := frozen_of_row w1 w.heap.size 3 _ _ X1.out
          have f4 := frozen_of_row w1 w.heap.size 4 _ _ X1.out
          clear b1 hc0 hc1
          go_wp2
          exact ret_ctl rfl rfl (set5 X1.out) ⟨rfl, keep5 B1.out (Nat.le_refl _)⟩
        | true =>
          rw [hs] at SS
          have hk : chk xs 1 34 34 = 0 := chk_fine (by omega) (by omega) hw1 (okS_iff.1 hs)
          have ek : kOf xs = x2 := by unfold kOf; rw [sl1 hx2]; exact val1 (hy.get hx2).1
          have ef : fOf xs = x3 := by unfold fOf; rw [sl1 hx3]; exact val1 (hy.get hx3).1
          have hb2 := hy.get hx2
          have hb3 := hy.get hx3
          have hc2 : (w.alloc (cbox 0 0 0 0 0)).cell? ⟨a.block, a.off + 2, none⟩ = some (.int .u8 x2) := by
            obtain ⟨b, hb, hcc, -⟩ := hW 2 x2 hx2
            cases hb; exact hcc
          have hc3 : (w.alloc (cbox 0 0 0 0 0)).cell? ⟨a.block, a.off + 3, none⟩ = some (.int .u8 x3) := by
            obtain ⟨b, hb, hcc, -⟩ := hW 3 x3 hx3
            cases hb; exact hcc
          have v3 := val_small2 hy 4 12 (by decide) (by omega)
          have v4 := val_small2 hy 12 16 (by decide) (by omega)
          have v5 := val_small2 hy 16 24 (by decide) (by omega)
          have hback := ctl_back hy hk
          have HRR := right_wrap (k := kOf xs) (f := fOf xs) (cy := cyOf xs) (cr := crOf xs) (cl := clOf xs) (by unfold cyOf; omega) (by unfold cyOf; omega) (by unfold clOf; omega) (by unfold clOf; omega)
          have e4 : IntKind.u32.wrap (crOf xs) = crOf xs := by rw [IntKind.wrap_u32']; unfold crOf; omega
          have e4b : crOf xs % 4294967296 = crOf xs := by unfold crOf; omega
          have HCR := Lib.hid (show 0 ≤ crOf xs by unfold crOf; omega)
          have N3 := fun W (hW : BL W (some a) xs) (d : Nat) (b : Addr) (hb : b = a.add 4) => value_at hW 4 12 d 8 b hb rfl (by decide) (by omega) (by decide)
          have N4 := fun W (hW : BL W (some a) xs) (d : Nat) (b : Addr) (hb : b = a.add 12) => value_at hW 12 16 d 4 b hb rfl (by decide) (by omega) (by decide)
          have N5 := fun W (hW : BL W (some a) xs) (d : Nat) (b : Addr) (hb : b = a.add 16) => value_at hW 16 24 d 8 b hb rfl (by decide) (by omega) (by decide)
          rw [show (val (sl xs 4 12) : Int) = cyOf xs from rfl] at N3
          rw [show (val (sl xs 12 16) : Int) = crOf xs from rfl] at N4
          rw [show (val (sl xs 16 24) : Int) = clOf xs from rfl] at N5
          rw [ek, ef] at hback HRR
          have HOK := Lib.hid (show rightC x2 x3 (cyOf xs) (crOf xs) (clOf xs) → blank (sl xs 24 30) → rcE xs = 0 ∧ rcV xs = CV x2 x3 (IntKind.i64.wrap (cyOf xs)) (crOf xs) (IntKind.i64.wrap (clOf xs)) from fun r b => by
            rw [wrap_right (x := cyOf xs) r.2.2.2.1 r.2.2.2.2.1, wrap_right (x := clOf xs) r.2.2.2.2.2.2.2.1 (by have := r.2.2.2.2.2.2.2.2; omega)]
            have := rc_ok (l := xs) ⟨hk, by rw [ek, ef]; exact r, b⟩
            rw [ek, ef] at this
            exact this)
          have HBAD := Lib.hid (show ¬ (rightC x2 x3 (cyOf xs) (crOf xs) (clOf xs) ∧ blank (sl xs 24 30)) → rcE xs = 2 ∧ rcV xs = CV 0 0 0 0 0 from fun r => rc_bad hk (fun o => r ⟨by have := o.2.1; rwa [ek, ef] at this, o.2.2⟩))
          have HBK := Lib.hid (show rightC x2 x3 (cyOf xs) (crOf xs) (clOf xs) → (ctl x2 x3 (IntKind.i64.wrap (cyOf xs)) (crOf xs) (IntKind.i64.wrap (clOf xs)) = xs ↔ blank (sl xs 24 30)) from fun r => by
            rw [wrap_right (x := cyOf xs) r.2.2.2.1 r.2.2.2.2.1, wrap_right (x := clOf xs) r.2.2.2.2.2.2.2.1 (by have := r.2.2.2.2.2.2.2.2; omega)]
            exact hback)
          have HR := Lib.hid (show ∀ W, Calls Try.prog 13 #[CV x2 x3 (IntKind.i64.wrap (cyOf xs)) (crOf xs) (IntKind.i64.wrap (clOf xs))] W fun e w' => e = .returned (.bool (decide (rightC x2 x3 (cyOf xs) (crOf xs) (clOf xs)))) ∧ Below W.heap.size W w' from fun W => by
            have h := refRightControl_any x2 x3 (IntKind.i64.wrap (cyOf xs)) (crOf xs) (IntKind.i64.wrap (clOf xs)) W HCR.out
            have e : decide (rightC x2 x3 (IntKind.i64.wrap (cyOf xs)) (crOf xs) (IntKind.i64.wrap (clOf xs))) = decide (rightC x2 x3 (cyOf xs) (crOf xs) (clOf xs)) := decide_eq_decide.2 HRR
            rwa [e] at h)
          have HRR2 := Lib.hid HRR
          have hcc : 34 ≤ c := by omega
          have n4 : ¬ c = 4 := by omega
          have n12 : ¬ c = 12 := by omega
          have n16 : ¬ c = 16 := by omega
          have i4 : (4 : Int) ≤ (c : Int) := by omega
          have i12 : (12 : Int) ≤ (c : Int) := by omega
          have i16 : (16 : Int) ≤ (c : Int) := by omega
          have i24 : (24 : Int) ≤ (c : Int) := by omega
          have HLEN := Lib.hid hlen
          rw [hlen]
          subst e0; subst e1
          have HX := Lib.hid hW
          have HS := Lib.hid SS
          have H3 := Lib.hid N3
          have H4 := Lib.hid N4
          have H5 := Lib.hid N5
          clear SS N3 N4 N5 HRR hback ek ef h hl hc hy hW hwh hw1 hx2 hx3 hx0 hx1 hs hk v3 v4 v5 hlen
          generalize rcE xs = E at *
          generalize rcV xs = V at *
          generalize sl xs 24 30 = B at *
          generalize cyOf xs = cy at *
          generalize crOf xs = cr at *
          generalize clOf xs = cl at *
          generalize hcy : IntKind.i64.wrap cy = cy' at *
          generalize hcl : IntKind.i64.wrap cl = cl' at *
          go_enter Try.func21, Try.ntmps21
          go_wp2_with fail
          refine HS.out.mono ?_
          rintro e w1 ⟨rfl, b1⟩
          have X1 := Lib.hid (show w1.heap[w.heap.size]? = some (cbox 0 0 0 0 0) from row_below b1 (heap_alloc_new w _))
          have B1 := Lib.hid ((al (Below.refl w.heap.size w) (cbox 0 0 0 0 0)).trans (b1.mono (by simp)))
          have Y1 := HX.out.below b1
          have P2 := Lib.hid (cell_keep hc2 b1)
          have P3 := Lib.hid (cell_keep hc3 b1)
          have p2 := P2.out
          have p3 := P3.out
          clear b1 hc0 hc1 hc2 hc3
          go_wp2_with fail
          apply wp_cut
          case h =>
           go_region_held3 (fun w' => w'.cell? ⟨a.block, a.off + 2, none⟩ = some (.int .u8 x2) ∧ w'.cell? ⟨a.block, a.off + 3, none⟩ = some (.int .u8 x3)) (first | exact ⟨P2.out, P3.out⟩ | exact ⟨cell_keep P2.out (al (Below.refl _ _) _).drew, cell_keep P3.out (al (Below.refl _ _) _).drew⟩) (first
             | (go_at_call 37; (with_reducible refine (H3.out _ ?_ _ _ ?_).mono ?_); (first | exact Y1 | exact Y1.below (al (Below.refl _ _) _).drew | exact Y1.below (al (Below.refl _ _) _)); rfl; rintro e w9 ⟨rfl, hw⟩; cases hw)
             | (go_at_call 37; (with_reducible refine (H4.out _ ?_ _ _ ?_).mono ?_); (first | exact Y1 | exact Y1.below (al (Below.refl _ _) _).drew | exact Y1.below (al (Below.refl _ _) _)); rfl; rintro e w9 ⟨rfl, hw⟩; cases hw)
             | (go_at_call 37; (with_reducible refine (H5.out _ ?_ _ _ ?_).mono ?_); (first | exact Y1 | exact Y1.below (al (Below.refl _ _) _).drew | exact Y1.below (al (Below.refl _ _) _)); rfl; rintro e w9 ⟨rfl, hw⟩; cases hw))
           all_goals exact ⟨rfl, rfl, rfl⟩
          case hm =>
            have Z2 := heap_alloc_new w1 (cbox x2 x3 cy' cr cl')
            have B2 := (al (Below.refl w1.heap.size w1) (cbox x2 x3 cy' cr cl')).drew
            go_wp2_with fail
            refine (HR.out _).mono ?_
            rintro e w3 ⟨rfl, b3⟩
            have B3 := B2.trans (b3.mono B2.size)
            have Z3 := Lib.hid (show w3.heap[w1.heap.size]? = some (cbox x2 x3 cy' cr cl') from row_below b3 Z2)
            have X3 := Lib.hid (row_below B3 X1.out)
            have Y3 := Lib.hid (Y1.below B3)
            have W3 := Lib.hid (B1.out.trans (B3.mono B1.out.size))
            obtain ⟨d0, d1, d2, d3, d4⟩ := cells5 Z3.out
            obtain ⟨c0, c1, c2, c3, c4⟩ := cells5 X3.out
            have f0 := frozen_of_row w3 w.heap.size 0 _ _ X3.out
            have f1 := frozen_of_row w3 w.heap.size 1 _ _ X3.out
            have f2 := frozen_of_row w3 w.heap.size 2 _ _ X3.out
            have f3 := frozen_of_row w3 w.heap.size 3 _ _ X3.out
            have f4 := frozen_of_row w3 w.heap.size 4 _ _ X3.out
            clear b3 B3 B2 Z2 p2 p3
            by_cases hr : rightC x2 x3 cy cr cl
            · rw [decide_eq_true hr]
              have HC5 := Lib.hid (fun W => refControl_ok x2 x3 cy' cr cl' W (HRR2.out.2 hr))
              have hbk := HBK.out hr
              by_cases hb : blank B
              · obtain ⟨hE, hV⟩ := HOK.out hr hb
                have HE := Lib.hid hE
                have HV := Lib.hid hV
                have HBT := Lib.hid (decide_eq_true (hbk.2 hb))
                clear hE hV hr hb hbk f0 f1 f2 f3 f4
                go_wp2_with fail
                refine (HC5.out _).mono ?_
                rintro e w4 ⟨v4, rfl, o4, b4⟩
                obtain ⟨A4, m4, q4, rfl, hm4, hb4, -⟩ := o4.form2
                have SM := same_any A4 (some a) q4 c m4 34 _ xs w4 hb4 (Y3.out.below b4) hm4 HLEN.out.symm
                rw [HBT.out] at SM
                have HSM := Lib.hid SM
                have X4 := Lib.hid (row_below b4 X3.out)
                have Z4 := Lib.hid (row_below b4 Z3.out)
                have W4 := Lib.hid (W3.out.trans (b4.mono W3.out.size))
                clear SM o4 b4 hm4 hb4 c0 c1 c2 c3 c4 d0 d1 d2 d3 d4
                obtain ⟨d0, d1, d2, d3, d4⟩ := cells5 Z4.out
                obtain ⟨c0, c1, c2, c3, c4⟩ := cells5 X4.out
                have f0 := frozen_of_row w4 w.heap.size 0 _ _ X4.out
                have f1 := frozen_of_row w4 w.heap.size 1 _ _ X4.out
                have f2 := frozen_of_row w4 w.heap.size 2 _ _ X4.out
                have f3 := frozen_of_row w4 w.heap.size 3 _ _ X4.out
                have f4 := frozen_of_row w4 w.heap.size 4 _ _ X4.out
                go_wp2_with (go_at_call 38; refine HSM.out.mono ?_; rintro e w9 ⟨rfl, hw⟩; obtain rfl := hw.symm)
                exact ret_ctl rfl rfl (set5 X4.out) ⟨by rw [HE.out, HV.out]; rfl, keep5 W4.out (Nat.le_refl _)⟩
              · obtain ⟨hE, hV⟩ := HBAD.out (fun h => hb h.2)
                have HE := Lib.hid hE
                have HV := Lib.hid hV
                have HBT := Lib.hid (decide_eq_false (fun e => hb (hbk.1 e)))
                clear hE hV hr hb hbk f0 f1 f2 f3 f4
                go_wp2_with fail
                refine (HC5.out _).mono ?_
                rintro e w4 ⟨v4, rfl, o4, b4⟩
                obtain ⟨A4, m4, q4, rfl, hm4, hb4, -⟩ := o4.form2
                have SM := same_any A4 (some a) q4 c m4 34 _ xs w4 hb4 (Y3.out.below b4) hm4 HLEN.out.symm
                rw [HBT.out] at SM
                have HSM := Lib.hid SM
                have X4 := Lib.hid (row_below b4 X3.out)
                have Z4 := Lib.hid (row_below b4 Z3.out)
                have W4 := Lib.hid (W3.out.trans (b4.mono W3.out.size))
                clear SM o4 b4 hm4 hb4 c0 c1 c2 c3 c4 d0 d1 d2 d3 d4
                obtain ⟨d0, d1, d2, d3, d4⟩ := cells5 Z4.out
                obtain ⟨c0, c1, c2, c3, c4⟩ := cells5 X4.out
                have f0 := frozen_of_row w4 w.heap.size 0 _ _ X4.out
                have f1 := frozen_of_row w4 w.heap.size 1 _ _ X4.out
                have f2 := frozen_of_row w4 w.heap.size 2 _ _ X4.out
                have f3 := frozen_of_row w4 w.heap.size 3 _ _ X4.out
                have f4 := frozen_of_row w4 w.heap.size 4 _ _ X4.out
                go_wp2_with (go_at_call 38; refine HSM.out.mono ?_; rintro e w9 ⟨rfl, hw⟩; obtain rfl := hw.symm)
                exact ret_ctl rfl rfl (set5 X4.out) ⟨by rw [HE.out, HV.out]; rfl, keep5 W4.out (Nat.le_refl _)⟩
            · rw [decide_eq_false hr]
              obtain ⟨hE, hV⟩ := HBAD.out (fun h => hr h.1)
              have HE := Lib.hid hE
              have HV := Lib.hid hV
              clear hE hV hr
              go_wp2
              exact ret_ctl rfl rfl (set5 X3.out) ⟨by rw [HE.out, HV.out]; rfl, keep5 W3.out (Nat.le_refl _)⟩
      · obtain ⟨hE, hV⟩ := rc_form (l := xs) (Or.inr (Or.inr (fun e => e1 (hwh.1.1 e).2)))
        rw [hE, hV, hlen]
        have hxb : (x1 != 29) = true := by simp [e1]
        subst e0
        clear h hl hc hy hW hwh hx0 hx1 hx2 hx3 hE hV e1
        go_enter Try.func21, Try.ntmps21
        go_wp2
        exact ret_ctl rfl rfl (heap_alloc_new w _) ⟨rfl, al (Below.refl _ _) _⟩
    · obtain ⟨hE, hV⟩ := rc_form (l := xs) (Or.inr (Or.inr (fun e => e0 (hwh.1.1 e).1)))
      rw [hE, hV, hlen]
      have hxb : (x0 != 137) = true := by simp [e0]
      clear h hl hc hy hW hwh hx0 hx1 hx2 hx3 hE hV e0
      go_enter Try.func21, Try.ntmps21
      go_wp2
      exact ret_ctl rfl rfl (heap_alloc_new w _) ⟨rfl, al (Below.refl _ _) _⟩
  · obtain ⟨hE, hV⟩ := rc_form (l := xs) (by omega)
    rw [hE, hV]
    have hxb : ((xs.length : Int) != 34) = true := by simp; omega
    clear h hc hE hV hlen
    go_enter Try.func21, Try.ntmps21
    go_wp2
    exact ret_ctl rfl rfl (heap_alloc_new w _) ⟨rfl, al (Below.refl _ _) _⟩
end Go.Proofs.Ytjejljjahmbhiaa.FrameW
