/- The document's own ReadData. -/
import Derived.Test.YtnlimdlmhfnkiaaFrameN
namespace Go.Proofs.Ytnlimdlmhfnkiaa.FrameW
open Go.RowKit
abbrev dz : Obj := dbox 0 0 0 ⟨#[]⟩ 0
set_option maxHeartbeats 8000000 in
set_option maxRecDepth 100000 in
theorem refReadData_any (A : Option Addr) (c : Nat) (xs : List Int) (w : World) (h : BL w A xs) (hl : xs.length ≤ 9223372036854775807) (hc : xs.length ≤ c) :
    Calls Try.prog 15 #[.slice A xs.length c] w fun e w' => e = .returned (.tuple #[rdV xs, .int .i64 (rdE xs)]) ∧ Below w.heap.size w w' := by
  by_cases hlo : (xs.length : Int) < 64
  · obtain ⟨hE, hV⟩ := rd_form (l := xs) (Or.inl hlo)
    rw [hE, hV]
    unfold DZ
    clear h hc hE hV
    go_enter Try.func15, Try.ntmps15
    go_wp2
    exact ret_dat rfl rfl (heap_alloc_new w _) ⟨rfl, al (Below.refl _ _) _⟩
  by_cases hhi : (xs.length : Int) > 1518
  · obtain ⟨hE, hV⟩ := rd_form (l := xs) (Or.inr (Or.inl hhi))
    rw [hE, hV]
    unfold DZ
    clear h hc hE hV
    go_enter Try.func15, Try.ntmps15
    go_wp2
    exact ret_dat rfl rfl (heap_alloc_new w _) ⟨rfl, al (Below.refl _ _) _⟩
  obtain ⟨a, rfl⟩ := h.some (by omega)
  have hy := h.by
  have hW := h.below (al (Below.refl w.heap.size w) dz)
  obtain ⟨x0, hx0⟩ : ∃ x, xs[0]? = some x := ⟨_, List.getElem?_eq_getElem (by omega)⟩
  obtain ⟨x1, hx1⟩ : ∃ x, xs[1]? = some x := ⟨_, List.getElem?_eq_getElem (by omega)⟩
  obtain ⟨x2, hx2⟩ : ∃ x, xs[2]? = some x := ⟨_, List.getElem?_eq_getElem (by omega)⟩
  obtain ⟨x3, hx3⟩ : ∃ x, xs[3]? = some x := ⟨_, List.getElem?_eq_getElem (by omega)⟩
  have hwh := wh_yes hx0 hx1 (by omega)
  have hc0 : (w.alloc dz).cell? a = some (.int .u8 x0) := by
    obtain ⟨b, hb, hcc, -⟩ := hW 0 x0 hx0
    cases hb; exact hcc
  have hc1 : (w.alloc dz).cell? ⟨a.block, a.off + 1, none⟩ = some (.int .u8 x1) := by
    obtain ⟨b, hb, hcc, -⟩ := hW 1 x1 hx1
    cases hb; exact hcc
  obtain ⟨M, hM⟩ : ∃ M, xs.length = M + 14 := ⟨xs.length - 14, by omega⟩
  have m0 : 50 ≤ (M : Int) := by omega
  have m1 : (M : Int) ≤ 1504 := by omega
  have q0 : ¬ (M : Int) + 14 < 64 := by omega
  have q1 : ¬ (M : Int) + 14 > 1518 := by omega
  have q2 : (0 : Int) < (M : Int) + 14 := by omega
  have y2 : (2 : Int) < (M : Int) + 14 := by omega
  have y3 : (3 : Int) < (M : Int) + 14 := by omega
  have y4 : (2 : Int) < ((M + 14 : Nat) : Int) := by omega
  have y5 : (3 : Int) < ((M + 14 : Nat) : Int) := by omega
  have y6 : 2 < M + 14 := by omega
  have y7 : 3 < M + 14 := by omega
  by_cases e0 : x0 = 8
  rotate_left
  · obtain ⟨hE, hV⟩ := rd_form (l := xs) (Or.inr (Or.inr (fun e => e0 (hwh.2.1 e).1)))
    rw [hE, hV, hM]
    unfold DZ
    have hxb : (x0 != 8) = true := by simp [e0]
    clear h hl hc hy hW hwh hx0 hx1 hx2 hx3 hE hV e0 hlo hhi hM
    go_enter Try.func15, Try.ntmps15
    go_wp2
    exact ret_dat rfl rfl (heap_alloc_new w _) ⟨rfl, al (Below.refl _ _) _⟩
  by_cases e1 : x1 = 0
  rotate_left
  · obtain ⟨hE, hV⟩ := rd_form (l := xs) (Or.inr (Or.inr (fun e => e1 (hwh.2.1 e).2)))
    rw [hE, hV, hM]
    unfold DZ
    have hxb : (x1 != 0) = true := by simp [e1]
    subst e0
    clear h hl hc hy hW hwh hx0 hx1 hx2 hx3 hE hV e1 hlo hhi hM
    go_enter Try.func15, Try.ntmps15
    go_wp2
    exact ret_dat rfl rfl (heap_alloc_new w _) ⟨rfl, al (Below.refl _ _) _⟩
  have hw1 := hwh.2.2 ⟨e0, e1⟩
  have SS := refsum_any (some a) c (M + 14) xs _ hW hM.symm hl hc (by omega)
  cases hs : okS xs with
  | false =>
    have hk : chk xs 2 64 1518 = 8 := chk_sum (by omega) (by omega) hw1 (fun e => by rw [okS_iff.2 e] at hs; cases hs)
    obtain ⟨hE, hV⟩ := rd_no (l := xs) (by rw [hk]; decide)
    rw [hE, hV, hk]
    rw [hs] at SS
    rw [hM]
    unfold DZ
    subst e0; subst e1
    have HS := Lib.hid SS
    clear SS h hl hc hy hW hwh hw1 hx2 hx3 hs hk hE hV hlo hhi hM
    go_enter Try.func15, Try.ntmps15
    go_wp2_with fail
    refine HS.out.mono ?_
    rintro e w1 ⟨rfl, b1⟩
    have X1 := Lib.hid (show w1.heap[w.heap.size]? = some dz from row_below b1 (heap_alloc_new w _))
    have B1 := Lib.hid ((al (Below.refl w.heap.size w) dz).trans (b1.mono (by simp)))
    obtain ⟨c0, c1, c2, c3, c4⟩ := cells5 X1.out
    have f0 := frozen_of_row w1 w.heap.size 0 _ _ X1.out
    have f1 := frozen_of_row w1 w.heap.size 1 _ _ X1.out
    have f2 := frozen_of_row w1 w.heap.size 2 _ _ X1.out
    have f3 := frozen_of_row w1 w.heap.size 3 _ _ X1.out
    have f4 := frozen_of_row w1 w.heap.size 4 _ _ X1.out
    clear b1 hc0 hc1
    go_wp2
    exact ret_dat rfl rfl (set5 X1.out) ⟨rfl, keep5 B1.out (Nat.le_refl _)⟩
  | true =>
    rw [hs] at SS
    have hk : chk xs 2 64 1518 = 0 := chk_fine (by omega) (by omega) hw1 (okS_iff.1 hs)
    have ek : cOf xs = x2 := by unfold cOf; rw [sl1 hx2]; exact val1 (hy.get hx2).1
    have ef : lOf xs = x3 := by unfold lOf; rw [sl1 hx3]; exact val1 (hy.get hx3).1
    have hb2 := hy.get hx2
    have hb3 := hy.get hx3
    have ex2 : IntKind.i64.wrap x2 = x2 := by rw [IntKind.wrap_i64]; omega
    have ex3 : IntKind.i64.wrap x3 = x3 := by rw [IntKind.wrap_i64]; omega
    have hc2 : (w.alloc dz).cell? ⟨a.block, a.off + 2, none⟩ = some (.int .u8 x2) := by
      obtain ⟨b, hb, hcc, -⟩ := hW 2 x2 hx2
      cases hb; exact hcc
    have hc3 : (w.alloc dz).cell? ⟨a.block, a.off + 3, none⟩ = some (.int .u8 x3) := by
      obtain ⟨b, hb, hcc, -⟩ := hW 3 x3 hx3
      cases hb; exact hcc
    have v3 := val_small2 hy 4 8 (by decide) (by omega)
    have v4 := val_small2 hy 8 10 (by decide) (by omega)
    have e3 : IntKind.i64.wrap (nOf xs) = nOf xs := wrap_right (by unfold nOf; omega) (by unfold nOf; omega)
    have e4 : IntKind.i64.wrap (zOf xs : Int) = (zOf xs : Int) := wrap_right (by unfold zOf; omega) (by unfold zOf; omega)
    have zb : zOf xs < 65536 := by unfold zOf; omega
    have zi : (zOf xs : Int) < 65536 := by omega
    have N3 := fun W (hW : BL W (some a) xs) (d : Nat) (b : Addr) (hb : b = a.add 4) => value_at hW 4 8 d 4 b hb rfl (by decide) (by omega) (by decide)
    have N4 := fun W (hW : BL W (some a) xs) (d : Nat) (b : Addr) (hb : b = a.add 8) => value_at hW 8 10 d 2 b hb rfl (by decide) (by omega) (by decide)
    rw [show (val (sl xs 4 8) : Int) = nOf xs from rfl] at N3
    rw [show (val (sl xs 8 10) : Int) = (zOf xs : Int) from rfl] at N4
    have HBAD := Lib.hid (show ¬ okD xs → rdE xs = 2 ∧ rdV xs = DZ from fun r => rd_bad hk r)
    have hfit : fitD xs ↔ zOf xs ≤ M := by unfold fitD; rw [hM]; omega
    have cI : ((M : Int) + 14) ≤ (c : Int) := by omega
    have n4 : ¬ c = 4 := by omega
    have n8 : ¬ c = 8 := by omega
    have n10 : ¬ c = 10 := by omega
    have i4 : (4 : Int) ≤ (c : Int) := by omega
    have i8 : (8 : Int) ≤ (c : Int) := by omega
    have i10 : (10 : Int) ≤ (c : Int) := by omega
    have HLEN := Lib.hid hM
    have HX := Lib.hid hW
    have HS := Lib.hid SS
    have H3 := Lib.hid N3
    have H4 := Lib.hid N4
    subst e0; subst e1
    by_cases hz : zOf xs ≤ M
    · have hpl : (pOf xs).length = zOf xs := pOf_len (by omega) (hfit.2 hz)
      have CV1 := fun W (hW : BL W (some a) xs) (d : Nat) (b : Addr) (hb : b = a.add 10) => conv_str (w := W) (A := some b) (xs := pOf xs) (n := zOf xs) (c := d) (by rw [hb]; exact hW.sl 10 (10 + zOf xs)) hpl.symm
      have hps : (strOfNums (pOf xs)).size = zOf xs := by rw [strOfNums_size, hpl]
      have hbsp : bs (strOfNums (pOf xs)) = pOf xs := bs_str (hy.drop 10 |>.take _)
      have hlM : ((xs.length : Nat) : Int) = (M : Int) + 14 := by rw [hM]; rfl
      have hback := dat_back hy hk (hfit.2 hz)
      rw [ek, ef, ← hbsp, hlM] at hback
      have HOK := Lib.hid (show rightD x2 x3 (nOf xs) (bs (strOfNums (pOf xs))) ((M : Int) + 14) → blank (sl xs (10 + zOf xs) (xs.length - 4)) → rdE xs = 0 ∧ rdV xs = DV x2 x3 (nOf xs) (strOfNums (pOf xs)) ((M : Int) + 14) from fun r b => by
        rw [hbsp] at r
        have := rd_ok (l := xs) ⟨hk, hfit.2 hz, b, by rw [ek, ef, hlM]; exact r⟩
        rwa [ek, ef, hlM] at this)
      have HBAD2 := Lib.hid (show ¬ (rightD x2 x3 (nOf xs) (bs (strOfNums (pOf xs))) ((M : Int) + 14) ∧ blank (sl xs (10 + zOf xs) (xs.length - 4))) → rdE xs = 2 ∧ rdV xs = DZ from fun r => HBAD.out (fun o => r ⟨by
        rw [hbsp]
        have := o.2.2.2
        rwa [ek, ef, hlM] at this, o.2.2.1⟩))
      have HBK := Lib.hid hback
      have HR := Lib.hid (fun W => refRightData_any x2 x3 (nOf xs) (strOfNums (pOf xs)) ((M : Int) + 14) W (by omega))
      have HPS := Lib.hid (show (strOfNums (pOf xs)).size ≤ 9223372036854775807 by omega)
      rw [hM]
      clear hback hpl hbsp hlM hfit HBAD SS N3 N4 h hl hc hy hW hwh hw1 hx2 hx3 hx0 hx1 hs hk v3 v4 hM hlo hhi ek ef zb hps
      generalize rdE xs = E at *
      generalize rdV xs = V at *
      generalize sl xs (10 + zOf xs) (xs.length - 4) = B at *
      generalize nOf xs = cy at *
      generalize strOfNums (pOf xs) = ps at *
      generalize zOf xs = Z at *
      have z0 : (0 : Int) ≤ (Z : Int) := by omega
      have z1 : (Z : Int) ≤ (M : Int) := by omega
      have z4 : ¬ (M : Int) < (Z : Int) := by omega
      have z5 : ((10 : Int) + (Z : Int)) ≤ (c : Int) := by omega
      have z6 : IntKind.i64.wrap ((10 : Int) + (Z : Int)) = 10 + (Z : Int) := by rw [IntKind.wrap_i64]; omega
      have z7 : (10 : Int) ≤ (10 : Int) + (Z : Int) := by omega
      have z8 : 10 + Z - 10 = Z := by omega
      have z9 : ((10 : Int) + (Z : Int)).toNat = 10 + Z := by omega
      have H7 := Lib.hid CV1
      clear CV1 zi hz
      go_enter Try.func15, Try.ntmps15
      go_wp2_with fail
      refine HS.out.mono ?_
      rintro e w1 ⟨rfl, b1⟩
      have X1 := Lib.hid (show w1.heap[w.heap.size]? = some dz from row_below b1 (heap_alloc_new w _))
      have B1 := Lib.hid ((al (Below.refl w.heap.size w) dz).trans (b1.mono (by simp)))
      have Y1 := HX.out.below b1
      have P2 := Lib.hid (cell_keep hc2 b1)
      have P3 := Lib.hid (cell_keep hc3 b1)
      clear b1 hc0 hc1 hc2 hc3
      go_wp2_with (go_at_call 30; refine (H4.out _ Y1 _ _ rfl).mono ?_; rintro e w9 ⟨rfl, hw⟩; obtain rfl := hw.symm)
      have hv1 : (convert 35 9 (.slice (some ⟨a.block, a.off + 10, none⟩) Z (c - 10))).run Try.prog w1.drew = .ok (.string ps) w1.drew := H7.out w1.drew (show BL w1.drew (some a) xs from Y1) _ _ rfl
      have hv2 : (convert 35 9 (.slice (some ⟨a.block, a.off + 10, none⟩) Z (c - 10))).run Try.prog (w1.alloc (dbox 0 0 0 ⟨#[]⟩ 0)).drew = .ok (.string ps) (w1.alloc (dbox 0 0 0 ⟨#[]⟩ 0)).drew := H7.out _ (Y1.below (al (Below.refl _ _) _).drew) _ _ rfl
      have hv3 : (convert 35 9 (.slice (some ⟨a.block, a.off + 10, none⟩) Z (c - 10))).run Try.prog (w1.alloc (dbox x2 x3 cy ps ((M : Int) + 14))).drew = .ok (.string ps) (w1.alloc (dbox x2 x3 cy ps ((M : Int) + 14))).drew := H7.out _ (Y1.below (al (Below.refl _ _) _).drew) _ _ rfl
      apply wp_cut
      case h =>
       go_region_held3 (fun w' => w'.cell? ⟨a.block, a.off + 2, none⟩ = some (.int .u8 x2) ∧ w'.cell? ⟨a.block, a.off + 3, none⟩ = some (.int .u8 x3) ∧ (convert 35 9 (.slice (some ⟨a.block, a.off + 10, none⟩) Z (c - 10))).run Try.prog w' = .ok (.string ps) w') (first | exact ⟨P2.out, P3.out, hv1⟩ | exact ⟨cell_keep P2.out (al (Below.refl _ _) _).drew, cell_keep P3.out (al (Below.refl _ _) _).drew, hv2⟩ | exact ⟨cell_keep P2.out (al (Below.refl _ _) _).drew, cell_keep P3.out (al (Below.refl _ _) _).drew, hv3⟩) (first
         | (go_at_call 30; (with_reducible refine (H3.out _ ?_ _ _ ?_).mono ?_); (first | exact Y1 | exact Y1.below (al (Below.refl _ _) _).drew | exact Y1.below (al (Below.refl _ _) _)); rfl; rintro e w9 ⟨rfl, hw⟩; cases hw))
       all_goals exact ⟨rfl, rfl, rfl⟩
      case hm =>
        have Z2 := heap_alloc_new w1 (dbox x2 x3 cy ps ((M : Int) + 14))
        have B2 := (al (Below.refl w1.heap.size w1) (dbox x2 x3 cy ps ((M : Int) + 14))).drew
        clear hv1 hv2 hv3
        go_wp2_with fail
        refine (HR.out _).mono ?_
        rintro e w3 ⟨rfl, b3⟩
        have B3 := B2.trans (b3.mono B2.size)
        have Z3 := Lib.hid (show w3.heap[w1.heap.size]? = some (dbox x2 x3 cy ps ((M : Int) + 14)) from row_below b3 Z2)
        have X3 := Lib.hid (row_below B3 X1.out)
        have Y3 := Lib.hid (Y1.below B3)
        have W3 := Lib.hid (B1.out.trans (B3.mono B1.out.size))
        obtain ⟨d0, d1, d2, d3, d4⟩ := cells5 Z3.out
        obtain ⟨c0, c1, c2, c3, c4⟩ := cells5 X3.out
        have f0 := frozen_of_row w3 w.heap.size 0 _ _ X3.out
        have f1 := frozen_of_row w3 w.heap.size 1 _ _ X3.out
        have f2 := frozen_of_row w3 w.heap.size 2 _ _ X3.out
        have f3 := frozen_of_row w3 w.heap.size 3 _ _ X3.out
        have f4 := frozen_of_row w3 w.heap.size 4 _ _ X3.out
        clear b3 B3 B2 Z2
        by_cases hr : rightD x2 x3 cy (bs ps) ((M : Int) + 14)
        · rw [decide_eq_true hr]
          have HC5 := Lib.hid (fun W => refData_ok x2 x3 cy ps ((M : Int) + 14) W hr)
          by_cases hb : blank B
          · obtain ⟨hE, hV⟩ := HOK.out hr hb
            have HE := Lib.hid hE
            have HV := Lib.hid hV
            have HBT := Lib.hid (decide_eq_true (HBK.out.2 hb))
            clear hE hV hr hb f0 f1 f2 f3 f4
            go_wp2_with fail
            refine (HC5.out _).mono ?_
            rintro e w4 ⟨v4, rfl, o4, b4⟩
            obtain ⟨A4, m4, q4, rfl, hm4, hb4, -⟩ := o4.form2
            have SM := same_any A4 (some a) q4 c m4 (M + 14) _ xs w4 hb4 (Y3.out.below b4) hm4 HLEN.out.symm
            rw [HBT.out] at SM
            have HSM := Lib.hid SM
            have X4 := Lib.hid (row_below b4 X3.out)
            have Z4 := Lib.hid (row_below b4 Z3.out)
            have W4 := Lib.hid (W3.out.trans (b4.mono W3.out.size))
            clear SM o4 b4 hm4 hb4 c0 c1 c2 c3 c4 d0 d1 d2 d3 d4
            obtain ⟨d0, d1, d2, d3, d4⟩ := cells5 Z4.out
            obtain ⟨c0, c1, c2, c3, c4⟩ := cells5 X4.out
            have f0 := frozen_of_row w4 w.heap.size 0 _ _ X4.out
            have f1 := frozen_of_row w4 w.heap.size 1 _ _ X4.out
            have f2 := frozen_of_row w4 w.heap.size 2 _ _ X4.out
            have f3 := frozen_of_row w4 w.heap.size 3 _ _ X4.out
            have f4 := frozen_of_row w4 w.heap.size 4 _ _ X4.out
            go_wp2_with (go_at_call 32; refine HSM.out.mono ?_; rintro e w9 ⟨rfl, hw⟩; obtain rfl := hw.symm)
            exact ret_dat rfl rfl (set5 X4.out) ⟨by rw [HE.out, HV.out]; rfl, keep5 W4.out (Nat.le_refl _)⟩
          · obtain ⟨hE, hV⟩ := HBAD2.out (fun h => hb h.2)
            have HE := Lib.hid hE
            have HV := Lib.hid hV
            have HBT := Lib.hid (decide_eq_false (fun e => hb (HBK.out.1 e)))
            clear hE hV hr hb f0 f1 f2 f3 f4
            go_wp2_with fail
            refine (HC5.out _).mono ?_
            rintro e w4 ⟨v4, rfl, o4, b4⟩
            obtain ⟨A4, m4, q4, rfl, hm4, hb4, -⟩ := o4.form2
            have SM := same_any A4 (some a) q4 c m4 (M + 14) _ xs w4 hb4 (Y3.out.below b4) hm4 HLEN.out.symm
            rw [HBT.out] at SM
            have HSM := Lib.hid SM
            have X4 := Lib.hid (row_below b4 X3.out)
            have Z4 := Lib.hid (row_below b4 Z3.out)
            have W4 := Lib.hid (W3.out.trans (b4.mono W3.out.size))
            clear SM o4 b4 hm4 hb4 c0 c1 c2 c3 c4 d0 d1 d2 d3 d4
            obtain ⟨d0, d1, d2, d3, d4⟩ := cells5 Z4.out
            obtain ⟨c0, c1, c2, c3, c4⟩ := cells5 X4.out
            have f0 := frozen_of_row w4 w.heap.size 0 _ _ X4.out
            have f1 := frozen_of_row w4 w.heap.size 1 _ _ X4.out
            have f2 := frozen_of_row w4 w.heap.size 2 _ _ X4.out
            have f3 := frozen_of_row w4 w.heap.size 3 _ _ X4.out
            have f4 := frozen_of_row w4 w.heap.size 4 _ _ X4.out
            go_wp2_with (go_at_call 32; refine HSM.out.mono ?_; rintro e w9 ⟨rfl, hw⟩; obtain rfl := hw.symm)
            exact ret_dat rfl rfl (set5 X4.out) ⟨by rw [HE.out, HV.out]; rfl, keep5 W4.out (Nat.le_refl _)⟩
        · rw [decide_eq_false hr]
          obtain ⟨hE, hV⟩ := HBAD2.out (fun h => hr h.1)
          have HE := Lib.hid hE
          have HV := Lib.hid hV
          clear hE hV hr
          go_wp2
          exact ret_dat rfl rfl (set5 X3.out) ⟨by rw [HE.out, HV.out]; rfl, keep5 W3.out (Nat.le_refl _)⟩
    · obtain ⟨hE, hV⟩ := HBAD.out (fun h => hz (hfit.1 h.2.1))
      have HE := Lib.hid hE
      have HV := Lib.hid hV
      rw [hM]
      clear hE hV hfit HBAD SS N3 N4 h hl hc hy hW hwh hw1 hx2 hx3 hx0 hx1 hs hk v3 v4 hM hlo hhi ek ef
      generalize rdE xs = E at *
      generalize rdV xs = V at *
      generalize zOf xs = Z at *
      have z4 : (M : Int) < (Z : Int) := by omega
      clear hz
      go_enter Try.func15, Try.ntmps15
      go_wp2_with fail
      refine HS.out.mono ?_
      rintro e w1 ⟨rfl, b1⟩
      have X1 := Lib.hid (show w1.heap[w.heap.size]? = some dz from row_below b1 (heap_alloc_new w _))
      have B1 := Lib.hid ((al (Below.refl w.heap.size w) dz).trans (b1.mono (by simp)))
      have Y1 := HX.out.below b1
      obtain ⟨c0, c1, c2, c3, c4⟩ := cells5 X1.out
      have f0 := frozen_of_row w1 w.heap.size 0 _ _ X1.out
      have f1 := frozen_of_row w1 w.heap.size 1 _ _ X1.out
      have f2 := frozen_of_row w1 w.heap.size 2 _ _ X1.out
      have f3 := frozen_of_row w1 w.heap.size 3 _ _ X1.out
      have f4 := frozen_of_row w1 w.heap.size 4 _ _ X1.out
      clear b1 hc0 hc1 hc2 hc3
      go_wp2_with (go_at_call 30; refine (H4.out _ Y1 _ _ rfl).mono ?_; rintro e w9 ⟨rfl, hw⟩; obtain rfl := hw.symm)
      exact ret_dat rfl rfl (set5 X1.out) ⟨by rw [HE.out, HV.out]; rfl, keep5 B1.out (Nat.le_refl _)⟩
end Go.Proofs.Ytnlimdlmhfnkiaa.FrameW

