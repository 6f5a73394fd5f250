/- The document's numbers: Floor. -/
import Derived.Test.YtelfbjldfdlpnaaTickRFloorA
import Derived.Deep.RegionHeld3
namespace Go.Proofs.Ytelfbjldfdlpnaa.TickW
open Go.RowKit
set_option maxHeartbeats 8000000 in
set_option maxRecDepth 100000 in
theorem refFloor_raw (A B : Option Addr) (c c2 x y : Nat) (p q : Bool) (w : World) (ha : DL w A (dl x)) (hb : DL w B (dl y)) (hy : 0 < y) (hl : (dl x).length ≤ 800) (hl2 : (dl y).length ≤ 800) (a : Int) (hpa : p = sg a) (hxa : x = a.natAbs) :
    Calls Try.prog 40 #[.agg #[.slice A (dl x).length c, .bool p], .agg #[.slice B (dl y).length c2, .bool q]] w fun e w' => (∃ (A' : Option Addr) (c' : Nat), e = .returned (.agg #[.slice A' (dn (a / (y : Int))) c', .bool (sg (a / (y : Int)))]) ∧ WD w' A' c' (a / (y : Int))) ∧ Below w.heap.size w w' := by
  have hfd := field_digits
  have HA := Lib.hid ha
  have HB := Lib.hid hb
  have HY := Lib.hid hy
  have HLX := Lib.hid hl
  have HLY := Lib.hid hl2
  have HPA := Lib.hid hpa
  have HXA := Lib.hid hxa
  have l1 : (dl x).length ≤ 800 := hl
  have l2 : (dl y).length ≤ 800 := hl2
  have e6 : wrap64 (((dl x).length : Int) - 1) = ((dl x).length : Int) - 1 := by unfold wrap64; omega
  have HE6 := Lib.hid e6
  clear ha hb hy hl hl2 hpa hxa e6 l2
  go_enter Try.func40, Try.ntmps40
  go_upto_region 1 with (fail)
  have h3 := alloc3 w (Obj.cells #[.slice A (dl x).length c, .bool p] 62) (Obj.cells #[.slice B (dl y).length c2, .bool q] 62) (Obj.cells #[.slice none 0 0, .bool false] 62)
  generalize ((w.alloc (Obj.cells #[.slice A (dl x).length c, .bool p] 62)).alloc (Obj.cells #[.slice B (dl y).length c2, .bool q] 62)).alloc (Obj.cells #[.slice none 0 0, .bool false] 62) = W0 at *
  obtain ⟨⟨h1, h2, h3⟩, hb0⟩ := h3
  have g0 : W0.cell? ⟨w.heap.size, 0, none⟩ = some (.slice A (dl x).length c) := cell_of_row W0 _ 0 _ _ _ h1
  have R1 := Lib.hid h1
  have R2 := Lib.hid h2
  have R3 := Lib.hid h3
  have BW := Lib.hid hb0
  have HA0 := Lib.hid (HA.out.below hb0)
  have HB0 := Lib.hid (HB.out.below hb0)
  clear h1 h2 h3 hb0
  go_wp2_with fail
  clear g0
  go_loopw [5, 6, 7] (fun qv rv iv wr => ∃ (k Q R : Nat) (A1 A2 : Option Addr) (c1 c3 : Nat) (z : Int), k ≤ (dl x).length ∧ iv = .int .i64 z ∧ qv = .slice A1 (dl Q).length c1 ∧ rv = .slice A2 (dl R).length c3 ∧ Hid (z = (k : Int) - 1) ∧ Hid (x / 65536 ^ k = Q * y + R ∧ R < y) ∧ Hid (Below W0.heap.size W0 wr) ∧ Hid (DL wr A1 (dl Q) ∧ (dl Q).length ≤ c1) ∧ Hid (DL wr A2 (dl R) ∧ (dl R).length ≤ c3)) (fun _ _ iv _ => (intOf iv + 1).toNat)
  case atStart =>
    refine ⟨(dl x).length, 0, 0, none, none, 0, 0, _, Nat.le_refl _, rfl, by rw [dl_zero]; rfl, by rw [dl_zero]; rfl, ?_, Lib.hid ⟨?_, HY.out⟩, Lib.hid (Below.refl _ _), Lib.hid ⟨?_, ?_⟩, Lib.hid ⟨?_, ?_⟩⟩
    · first | exact HE6 | exact Lib.hid rfl
    · rw [Nat.zero_mul]; exact Nat.eq_zero_of_not_pos (fun h => Nat.lt_irrefl _ ((dl_lt_length x _).2 h))
    · rw [dl_zero]; exact fun k d h => by simp at h
    · rw [dl_zero]; exact Nat.le_refl _
    · rw [dl_zero]; exact fun k d h => by simp at h
    · rw [dl_zero]; exact Nat.le_refl _
  case round =>
    obtain ⟨k, Q, R, A1, A2, c1, c3, z, hk, rfl, rfl, rfl, HZ, HV, HW, HQ, HR⟩ := hrel
    clear HE6
    rcases Nat.eq_zero_or_pos k with rfl | hpos
    · have hz : z = -1 := by have := HZ.out; omega
      subst hz
      have hxv : x = Q * y + R := by have := HV.out.1; simpa using this
      have hRy := HV.out.2
      have hQx : Q ≤ x := by
        have h3 : Q ≤ Q * y := Nat.le_mul_of_pos_right _ HY.out
        omega
      have LQ := Lib.hid (show (dl Q).length ≤ 800 from Nat.le_trans (dl_len_mono hQx) HLX.out)
      have LR := Lib.hid (show (dl R).length ≤ 1000 from Nat.le_trans (dl_len_mono (Nat.le_of_lt hRy)) (Nat.le_trans HLY.out (by decide)))
      have HXV := Lib.hid (And.intro hxv hRy)
      have T1 := trim_nat A1 c1 Q wr HQ.out.1 HQ.out.2 (Nat.le_trans LQ.out (by decide))
      clear hxv hRy hQx hk HZ HV l1
      go_upto_region 16 with (first | (go_at_call 47; (with_reducible refine T1.mono ?_); rintro e w2 ⟨rfl, hd, b2⟩; have D2 := Lib.hid hd; have W2 := Lib.hid (HW.out.trans (b2.mono HW.out.size)); have D2R := Lib.hid (And.intro (HR.out.1.below b2) HR.out.2); clear hd b2 T1))
      have b3 := al (Below.refl w2.heap.size w2) (Obj.cells #[.slice A1 (dn (Q : Int)) c1, .bool (sg (Q : Int))] 62)
      have h3 := heap_alloc_new w2 (Obj.cells #[.slice A1 (dn (Q : Int)) c1, .bool (sg (Q : Int))] 62)
      generalize w2.alloc (Obj.cells #[.slice A1 (dn (Q : Int)) c1, .bool (sg (Q : Int))] 62) = w3 at *
      obtain ⟨G, hG⟩ : ∃ G, G = w2.heap.size := ⟨_, rfl⟩
      rw [← hG] at h3 ⊢
      have W3 := Lib.hid (W2.out.trans (b3.mono W2.out.size))
      have D3 := Lib.hid (D2.out.below b3)
      have D3R := Lib.hid (And.intro (D2R.out.1.below b3) D2R.out.2)
      have RG := Lib.hid h3
      have HG := Lib.hid (show W0.heap.size ≤ G by rw [hG]; exact W2.out.size)
      have HS3 := Lib.hid (show w.heap.size + 1 + 1 < W0.heap.size from row_lt0 R3.out)
      clear b3 h3 D2 D2R W2 hG
      have g1 : w3.cell? ⟨w.heap.size, 1, none⟩ = some (.bool p) := cell_of_row w3 _ 1 _ _ _ ((W3.out.block _ (row_lt0 R1.out)).trans R1.out)
      cases p with
      | false =>
        have hz : a / (y : Int) = (Q : Int) := by
          have h1 : ¬ a < 0 := of_decide_eq_false HPA.out.symm
          have h2 : a = (x : Int) := by have := HXA.out; omega
          rw [h2]; exact floor_pos HXV.out.1 HXV.out.2
        have HZ := Lib.hid hz
        have e0 : w3.cell? ⟨G, 0, none⟩ = some (.slice A1 (dn (Q : Int)) c1) := cell_of_row w3 _ 0 _ _ _ RG.out
        have e1 : w3.cell? ⟨G, 1, none⟩ = some (.bool (sg (Q : Int))) := cell_of_row w3 _ 1 _ _ _ RG.out
        have RR := Lib.hid ((W3.out.block _ HS3.out).trans R3.out)
        have z0 : w3.cell? ⟨w.heap.size + 1 + 1, 0, none⟩ = some (.slice none 0 0) := cell_of_row w3 _ 0 _ _ _ RR.out
        have z1 : w3.cell? ⟨w.heap.size + 1 + 1, 1, none⟩ = some (.bool false) := cell_of_row w3 _ 1 _ _ _ RR.out
        have f0 := frozen_of_row w3 (w.heap.size + 1 + 1) 0 _ _ RR.out
        have f1 := frozen_of_row w3 (w.heap.size + 1 + 1) 1 _ _ RR.out
        clear hz
        go_wp2
        exact ret_ref_set rfl rfl RR.out ⟨⟨A1, c1, by rw [HZ.out], by rw [HZ.out]; exact wd_store D3.out RR.out _ _⟩, setRef_below (BW.out.trans (W3.out.mono BW.out.size)) (by omega) _ _⟩
      | true =>
        have T2 := trim_dl A2 c3 R false w3 D3R.out.1 D3R.out.2 LR.out
        go_upto_if 72 with (first | (go_at_call 47; (with_reducible refine T2.mono ?_); rintro e w4 ⟨rfl, hd, b4⟩; have W4 := Lib.hid (W3.out.trans (b4.mono W3.out.size)); have D4 := Lib.hid (D3.out.below b4); have RG4 := Lib.hid (row_below b4 RG.out); clear hd b4 T2))
        clear g1
        go_cut [72] (fun _ wx => ∃ (A' : Option Addr) (c' : Nat) (zz : Int), Hid (a / (y : Int) = -zz) ∧ Hid (dn zz ≤ 900) ∧ Hid (Below W0.heap.size W0 wx) ∧ Hid (wx.heap[G]? = some (.cells #[.slice A' (dn zz) c', .bool (sg zz)] 62 (0, 0))) ∧ Hid (WD wx A' c' zz))
        case first =>
          have hneg : a = -(x : Int) := by
            have h1 : a < 0 := of_decide_eq_true HPA.out.symm
            have := HXA.out
            omega
          rcases Nat.eq_zero_or_pos R with h0 | h0
          · have hl0 : (dl R).length = 0 := by rw [h0, dl_zero]; rfl
            have hz : a / (y : Int) = -(Q : Int) := by
              rw [hneg]
              refine floor_neg0 ?_ HY.out
              rw [← h0]; exact HXV.out.1
            have HZ := Lib.hid hz
            have k1 : ¬ ((dl R).length : Int) > 0 := by omega
            have k2 : ¬ 0 < (dl R).length := by omega
            clear hz hneg h0 hl0
            go_wp2
            go_meet
            exact ⟨A1, c1, (Q : Int), HZ, Lib.hid (Nat.le_trans LQ.out (by decide)), W4, RG4, D4⟩
          · have hl0 : 0 < (dl R).length := by
              rcases Nat.eq_zero_or_pos (dl R).length with h | h
              · exact absurd (dl_nil.1 (List.eq_nil_of_length_eq_zero h)) (by omega)
              · exact h
            have hz : a / (y : Int) = -((Q : Int) + 1) := by
              rw [hneg]
              exact floor_neg1 HXV.out.1 HXV.out.2 h0
            have HZ := Lib.hid hz
            have LQ1 : dn (Q : Int) ≤ 900 := Nat.le_trans LQ.out (by decide)
            have LQ2 : dn ((Q : Int) + 1) ≤ 900 := by
              have h1 : dn (Q : Int) ≤ 800 := LQ.out
              have h2 : dn (1 : Int) ≤ 800 := Nat.le_trans (dn_small (by decide) (by decide)) (by decide)
              have := dn_add h1 h2
              omega
            have LQ3 := Lib.hid LQ2
            have Ox := fun W => of_agg 1 (by decide) (by decide) W
            have Ax := fun A2 c2 W (h1 : WD W A1 c1 (Q : Int)) (h2 : WD W A2 c2 1) => refAdd_agg (Q : Int) 1 A1 A2 c1 c2 W h1 h2 LQ1 (Nat.le_trans (dn_small (by decide) (by decide)) (by decide))
            have k1 : ((dl R).length : Int) > 0 := by omega
            clear hz hneg h0 LQ1 LQ2
            go_wp2_with fail
            have a0 : w4.cell? ⟨G, 0, none⟩ = some (.slice A1 (dn (Q : Int)) c1) := cell_of_row w4 G 0 _ _ _ RG4.out
            have a1 : w4.cell? ⟨G, 1, none⟩ = some (.bool (sg (Q : Int))) := cell_of_row w4 G 1 _ _ _ RG4.out
            have HDd := Lib.hid (show WD w4.drew A1 c1 (Q : Int) from D4.out)
            go_region_with (first
              | (go_at_call 42; (with_reducible refine (Ox _).mono ?_); rintro e w5 ⟨⟨A5, c5, rfl, hd2⟩, b2⟩; have t0 := cell_keep (show w4.drew.cell? _ = some _ from a0) b2; have t1 := cell_keep (show w4.drew.cell? _ = some _ from a1) b2; have HD2 := Lib.hid hd2; have B2 := Lib.hid b2; clear b2 hd2)
              | (go_at_call 41; (with_reducible refine (Ax A5 c5 _ (HDd.out.below B2.out) HD2.out).mono ?_); rintro e w6 ⟨⟨A6, c6, rfl, hd3⟩, b3⟩; have R6 := Lib.hid (row_below b3 (row_below B2.out (show w4.drew.heap[G]? = _ from RG4.out))); have z0 : w6.cell? ⟨G, 0, none⟩ = some (.slice A1 (dn (Q : Int)) c1) := cell_of_row w6 G 0 _ _ _ R6.out; have z1 : w6.cell? ⟨G, 1, none⟩ = some (.bool (sg (Q : Int))) := cell_of_row w6 G 1 _ _ _ R6.out; have fr0 := frozen_of_row w6 G 0 _ _ R6.out; have fr1 := frozen_of_row w6 G 1 _ _ R6.out; have HD3 := Lib.hid hd3; have B3 := Lib.hid b3; clear b3 hd3 t0 t1 a0 a1))
            all_goals
              have W6 := Lib.hid (W4.out.trans (((of_drew B2.out).trans (B3.out.mono (by have := B2.out.size; exact this))).mono W4.out.size))
              clear z0 z1 fr0 fr1
              go_wp2
              go_meet
              exact ⟨A6, c6, (Q : Int) + 1, HZ, LQ3, Lib.hid ((W6.out.setCell HG.out _).setCell HG.out _), Lib.hid (heap_setCell_same _ _ 1 _ _ _ (heap_setCell_same _ _ 0 _ _ _ R6.out)), Lib.hid (wd_store HD3.out R6.out _ _)⟩
        case rest =>
          obtain ⟨A5, c5, zz, HZ, HDN, W5, RG5, D5⟩ := hcut
          clear D4 RG4 W4 D3 D3R RG
          have a0 : wc.cell? ⟨G, 0, none⟩ = some (.slice A5 (dn zz) c5) := cell_of_row wc G 0 _ _ _ RG5.out
          have a1 : wc.cell? ⟨G, 1, none⟩ = some (.bool (sg zz)) := cell_of_row wc G 1 _ _ _ RG5.out
          have T := refTurn_agg zz A5 c5 wc D5.out HDN.out
          have RR := Lib.hid ((W5.out.block _ HS3.out).trans R3.out)
          go_upto_region 20 with (first | (go_at_call 51; (with_reducible refine T.mono ?_); rintro e w6 ⟨⟨A6, c6, rfl, hd⟩, b6⟩; have D6 := Lib.hid hd; have RG6 := Lib.hid (row_below b6 RG5.out); have RR6 := Lib.hid (row_below b6 RR.out); have W6 := Lib.hid (W5.out.trans (b6.mono W5.out.size)); have z0 : w6.cell? ⟨G, 0, none⟩ = some (.slice A5 (dn zz) c5) := cell_of_row w6 G 0 _ _ _ RG6.out; have z1 : w6.cell? ⟨G, 1, none⟩ = some (.bool (sg zz)) := cell_of_row w6 G 1 _ _ _ RG6.out; have fr0 := frozen_of_row w6 G 0 _ _ RG6.out; have fr1 := frozen_of_row w6 G 1 _ _ RG6.out; clear hd b6 T a0 a1))
          have RG7 := Lib.hid (heap_setCell_same _ _ 1 _ _ (.bool (sg (-zz))) (heap_setCell_same w6 G 0 _ _ (.slice A6 (dn (-zz)) c6) RG6.out))
          have hne : w.heap.size + 1 + 1 ≠ G := by have := HG.out; have := HS3.out; omega
          have RR7 := Lib.hid (((heap_setCell_other (w6.setCell ⟨G, 0, none⟩ (.slice A6 (dn (-zz)) c6)) ⟨G, 1, none⟩ _ (.bool (sg (-zz))) hne).trans (heap_setCell_other w6 ⟨G, 0, none⟩ _ (.slice A6 (dn (-zz)) c6) hne)).trans RR6.out)
          have D7 := Lib.hid (wd_store D6.out RG6.out (.slice A6 (dn (-zz)) c6) (.bool (sg (-zz))))
          have W7 := Lib.hid ((W6.out.setCell (p := ⟨G, 0, none⟩) HG.out (.slice A6 (dn (-zz)) c6)).setCell (p := ⟨G, 1, none⟩) HG.out (.bool (sg (-zz))))
          clear z0 z1 fr0 fr1 hne
          generalize (w6.setCell ⟨G, 0, none⟩ (.slice A6 (dn (-zz)) c6)).setCell ⟨G, 1, none⟩ (.bool (sg (-zz))) = w7 at *
          have e0 : w7.cell? ⟨G, 0, none⟩ = some (.slice A6 (dn (-zz)) c6) := cell_of_row w7 G 0 _ _ _ RG7.out
          have e1 : w7.cell? ⟨G, 1, none⟩ = some (.bool (sg (-zz))) := cell_of_row w7 G 1 _ _ _ RG7.out
          have z0 : w7.cell? ⟨w.heap.size + 1 + 1, 0, none⟩ = some (.slice none 0 0) := cell_of_row w7 _ 0 _ _ _ RR7.out
          have z1 : w7.cell? ⟨w.heap.size + 1 + 1, 1, none⟩ = some (.bool false) := cell_of_row w7 _ 1 _ _ _ RR7.out
          have f0 := frozen_of_row w7 (w.heap.size + 1 + 1) 0 _ _ RR7.out
          have f1 := frozen_of_row w7 (w.heap.size + 1 + 1) 1 _ _ RR7.out
          go_wp2
          exact ret_ref_set rfl rfl RR7.out ⟨⟨A6, c6, by rw [HZ.out], by rw [HZ.out]; exact wd_store D7.out RR7.out _ _⟩, setRef_below (BW.out.trans (W7.out.mono BW.out.size)) (by omega) _ _⟩
    · obtain ⟨j, hj⟩ : ∃ j, k = j + 1 := ⟨k - 1, by omega⟩
      subst hj
      have hz : z = (j : Int) := by have := HZ.out; omega
      subst hz
      have hgx := dl_get x j
      rw [if_pos ((dl_lt_length x j).1 hk)] at hgx
      have HGX := Lib.hid hgx
      have px := pow_split x j
      have HPX := Lib.hid px
      have hdb : x / 65536 ^ j % 65536 < 65536 := Nat.mod_lt _ (by decide)
      have HK := Lib.hid hk
      have jb : j < 800 := by omega
      clear hgx px hpos hk
      go_wp2_with fail
      obtain ⟨w0, hw0⟩ : ∃ w0, w0 = wr := ⟨_, rfl⟩
      subst hw0
      go_loopw [5, 6, 8] (fun qv rv kv wr => ∃ (n Q R : Nat) (A1 A2 : Option Addr) (c1 c3 : Nat) (z : Int), n ≤ 16 ∧ kv = .int .i64 z ∧ qv = .slice A1 (dl Q).length c1 ∧ rv = .slice A2 (dl R).length c3 ∧ Hid (z = (n : Int) - 1) ∧ Hid (x / 65536 ^ j / 2 ^ n = Q * y + R ∧ R < y) ∧ Hid (Below W0.heap.size W0 wr) ∧ Hid (DL wr A1 (dl Q) ∧ (dl Q).length ≤ c1) ∧ Hid (DL wr A2 (dl R) ∧ (dl R).length ≤ c3)) (fun _ _ kv _ => (intOf kv + 1).toNat)
      case atStart => exact ⟨16, Q, R, A1, A2, c1, c3, 15, Nat.le_refl _, rfl, rfl, rfl, Lib.hid rfl, Lib.hid ⟨by rw [← HV.out.1, div_pow_succ], HV.out.2⟩, HW, HQ, HR⟩
      case round =>
        clear HV HW HQ HR HZ
        obtain ⟨n, Q, R, A1, A2, c1, c3, z, hn, rfl, rfl, rfl, HZ, HV, HW, HQ, HR⟩ := hrel
        rcases Nat.eq_zero_or_pos n with rfl | hpos
        · have hz : z = -1 := by have := HZ.out; omega
          subst hz
          go_wp2_with fail
          go_roundw
          case rel => exact ⟨j, Q, R, A1, A2, c1, c3, (j : Int) - 1, by have := HK.out; omega, by first | rfl | go_num, rfl, rfl, Lib.hid rfl, Lib.hid ⟨by have := HV.out.1; simpa using this, HV.out.2⟩, HW, HQ, HR⟩
          case measure => simp only [intOf]; omega
        · obtain ⟨m, hm⟩ : ∃ m, n = m + 1 := ⟨n - 1, by omega⟩
          subst hm
          have hz : z = (m : Int) := by have := HZ.out; omega
          subst hz
          have hQx : Q ≤ x := by
            have h1 := HV.out.1
            have h2 : x / 65536 ^ j / 2 ^ (m + 1) ≤ x := Nat.le_trans (Nat.div_le_self _ _) (Nat.div_le_self _ _)
            have h3 : Q ≤ Q * y := Nat.le_mul_of_pos_right _ HY.out
            omega
          have lR : (dl R).length ≤ 800 := Nat.le_trans (dl_len_mono (Nat.le_of_lt HV.out.2)) HLY.out
          have lQ : (dl Q).length ≤ 800 := Nat.le_trans (dl_len_mono hQx) HLX.out
          have l1' : (dl 1).length ≤ 801 := by rw [dl_one]; decide
          have lR2 := dl_len_add lR lR
          have lQ2 := dl_len_add lQ lQ
          have LR2 := Lib.hid (show (dl (R + R)).length ≤ 1000 by omega)
          have LQ2 := Lib.hid (show (dl (Q + Q)).length ≤ 1000 by omega)
          have LR3 := Lib.hid (show (dl (R + R + 1)).length ≤ 1000 by have := dl_len_add lR2 l1'; omega)
          have LQ3 := Lib.hid (show (dl (Q + Q + 1)).length ≤ 1000 by have := dl_len_add lQ2 l1'; omega)
          have P1 := refplus_any A2 A2 c3 c3 R R wr HR.out.1 HR.out.1 LR2.out
          have HN := Lib.hid hn
          have mb : m < 16 := by omega
          clear hQx lR lQ l1' lR2 lQ2 hn hpos
          go_upto_region 9 with (first
            | (go_at_call 48; (with_reducible refine P1.mono ?_); rintro e w2 ⟨⟨A3, c4, rfl, hd, hc⟩, b2⟩; have D2 := Lib.hid (And.intro hd hc); have B2 := Lib.hid b2; clear hd hc b2 P1)
            | (go_at_call 47; (with_reducible refine (trim_dl A3 c4 (R + R) false _ D2.out.1 D2.out.2 LR2.out).mono ?_); rintro e w3 ⟨rfl, hd, b3⟩; have D3 := Lib.hid hd; have B3 := Lib.hid (B2.out.trans (b3.mono B2.out.size)); clear hd b3))
          have W3 := Lib.hid (HW.out.trans (B3.out.mono HW.out.size))
          have Q3 := Lib.hid (And.intro (HQ.out.1.below B3.out) HQ.out.2)
          have D4 := Lib.hid (And.intro D3.out D2.out.2)
          clear HW HQ HR B2 B3 D2 D3
          have g0 : w3.cell? ⟨w.heap.size, 0, none⟩ = some (.slice A (dl x).length c) := cell_of_row w3 _ 0 _ _ _ ((W3.out.block _ (row_lt0 R1.out)).trans R1.out)
          obtain ⟨ad, hae, hca⟩ := (HA0.out.below W3.out) j _ HGX.out
          subst hae
          generalize hdd : x / 65536 ^ j % 65536 = d at *
          have HDD := Lib.hid hdd
          have q1 : (j : Int) < ((dl x).length : Int) := by have := HK.out; omega
          clear hdd
          go_upto_if 37 with (fail)
          have hbv := bit_val d m
          obtain ⟨b, hb⟩ : ∃ b, b = d / 2 ^ m % 2 := ⟨_, rfl⟩
          rw [← hb] at hbv
          have hb2 : b < 2 := by rw [hb]; omega
          have HBV := Lib.hid hbv
          have HBB := Lib.hid hb
          clear hbv hb g0 hca q1
          go_cut [6] (fun s6 wx => ∃ (A5 : Option Addr) (c5 R1 : Nat), s6 = .slice A5 (dl R1).length c5 ∧ Hid (R1 = R + R + b) ∧ Hid (DL wx A5 (dl R1) ∧ (dl R1).length ≤ c5) ∧ Hid (Below W0.heap.size W0 wx) ∧ Hid (DL wx A1 (dl Q) ∧ (dl Q).length ≤ c1))
          case first =>
            rcases Nat.eq_zero_or_pos b with h0 | h0
            · subst h0
              rw [HBV.out]
              go_wp2
              go_meet
              exact ⟨A3, c4, R + R, rfl, Lib.hid rfl, D4, W3, Q3⟩
            · have h1 : b = 1 := by omega
              subst h1
              rw [HBV.out]
              have b4 := al (Below.refl w3.heap.size w3) (Obj.cells #[.int .u32 1] 68)
              have P2 := refplus_any A3 (some ⟨w3.heap.size, 0, none⟩) c4 1 (R + R) 1 (w3.alloc (Obj.cells #[.int .u32 1] 68)) (D4.out.1.below b4) (one_dl (heap_alloc_new w3 _)) LR3.out
              rw [len_one] at P2
              have W4 := Lib.hid (W3.out.trans (b4.mono W3.out.size))
              have Q4 := Lib.hid (And.intro (Q3.out.1.below b4) Q3.out.2)
              clear b4
              go_wp2_with (first | (go_at_call 48; (with_reducible refine P2.mono ?_); rintro e w5 ⟨⟨A5, c5, rfl, hd, hc⟩, b5⟩; have D5 := Lib.hid (And.intro hd hc); have B5 := Lib.hid b5; clear hd hc b5 P2))
              go_meet
              exact ⟨A5, c5, R + R + 1, rfl, Lib.hid rfl, D5, Lib.hid (W4.out.trans (B5.out.mono W4.out.size)), Lib.hid ⟨Q4.out.1.below B5.out, Q4.out.2⟩⟩
          case rest =>
            obtain ⟨A5, c5, R1', rfl, HR1, D5, W5, Q5⟩ := hcut
            have HCell := Lib.hid (show wc.cell? ⟨w.heap.size + 1, 0, none⟩ = some (.slice B (dl y).length c2) from cell_of_row wc _ 0 _ _ _ ((W5.out.block _ (row_lt0 R2.out)).trans R2.out))
            have hstep : x / 65536 ^ j / 2 ^ m = (Q + Q) * y + R1' := by
              have e1 := half_step (x / 65536 ^ j) m
              have e2 := bit_eq (x / 65536 ^ (j + 1)) d m mb
              have e3 := HPX.out
              rw [← e3, ← HBB.out] at e2
              rw [e1, e2, HR1.out, fl_step HV.out.1]
            have HST := Lib.hid hstep
            have LR1 := Lib.hid (show (dl R1').length ≤ 1000 from Nat.le_trans (dl_len_mono (by have := HR1.out; omega)) LR3.out)
            have HRY := Lib.hid (show R1' < y + y by have := HR1.out; have := HV.out.2; omega)
            have P3 := refplus_any A1 A1 c1 c1 Q Q wc Q5.out.1 Q5.out.1 LQ2.out
            obtain ⟨z, hz⟩ : ∃ z, z = cmpI R1' y := ⟨_, rfl⟩
            have HZZ := Lib.hid hz
            clear hstep hz
            go_upto_region 12 with (first | (go_at_call 48; (with_reducible refine P3.mono ?_); rintro e w6 ⟨⟨A6, c6, rfl, hd, hc⟩, b6⟩; have D6 := Lib.hid (And.intro hd hc); have W6 := Lib.hid (W5.out.trans (b6.mono W5.out.size)); have D5b := Lib.hid (And.intro (D5.out.1.below b6) D5.out.2); have g2 := Lib.hid (cell_keep HCell.out b6); clear hd hc b6 P3))
            clear D5 W5 Q5 HCell HV HZ Q3 W3 D4
            have D5d := Lib.hid (show DL w6.drew A5 (dl R1') from D5b.out.1)
            have HBd := Lib.hid (show DL w6.drew B (dl y) from HB0.out.below (W6.out.drew))
            have W6d := Lib.hid (show Below W0.heap.size W0 w6.drew from W6.out.drew)
            by_cases hle : y ≤ R1'
            · have kz : z ≥ 0 := by rw [HZZ.out]; unfold cmpI; rw [if_neg (by omega)]; split <;> omega
              have HLE := Lib.hid hle
              clear hle
              go_region_held3 (fun w' => w'.cell? ⟨w.heap.size + 1, 0, none⟩ = some (.slice B (dl y).length c2)) (first | exact g2.out | exact k2.out | exact l2.out) (first
                | (go_at_call 47; (with_reducible refine (trim_dl A5 c5 R1' false _ D5d.out D5b.out.2 LR1.out).mono ?_); rintro e w7 ⟨rfl, hd, b7⟩; have D7 := Lib.hid hd; have B7 := Lib.hid b7; have k2 := Lib.hid (cell_keep (show w6.drew.cell? _ = some _ from g2.out) b7); clear hd b7)
                | (go_at_call 49; (with_reducible refine (compare_any A5 B c5 c2 R1' y _ D7.out (HBd.out.below B7.out) LR1.out).mono ?_); rintro e w8 ⟨rfl, b8⟩; rw [← HZZ.out]; have B8 := Lib.hid (B7.out.trans (b8.mono B7.out.size)); have l2 := Lib.hid (cell_keep k2.out b8); clear b8))
              have W8 := Lib.hid (W6d.out.trans (B8.out.mono W6d.out.size))
              have D6b := Lib.hid (And.intro ((show DL w6.drew A6 (dl (Q + Q)) from D6.out.1).below B8.out) D6.out.2)
              have D5c := Lib.hid (And.intro (D5d.out.below B8.out) D5b.out.2)
              have HB8 := Lib.hid (HBd.out.below B8.out)
              have g8 := l2.out
              clear D6 D5b D5d HBd W6 W6d B7 B8 g2 k2 l2 D7
              rename_i hHd
              clear hHd
              have P4 := refminus_any A5 B c5 c2 R1' y w8 D5c.out.1 HB8.out HLE.out LR1.out
              go_upto_region 14 with (first
                | (go_at_call 50; (with_reducible refine P4.mono ?_); rintro e w9 ⟨⟨A7, c7, ds, rfl, hd1, hc1, hl1, hx1, hv1⟩, b9⟩; have D9 := Lib.hid (And.intro hd1 (And.intro hx1 (And.intro hc1 hl1))); have V9 := Lib.hid hv1; have B9 := Lib.hid b9; clear hd1 hc1 hl1 hx1 hv1 b9 P4)
                | (go_at_call 47; (with_reducible refine (trim_any A7 c7 ds false _ D9.out.1 D9.out.2.1 D9.out.2.2.1 D9.out.2.2.2).mono ?_); rintro e w10 ⟨rfl, hd2, hc2, b10⟩; rw [V9.out] at *; have D10 := Lib.hid (And.intro hd2 hc2); have B10 := Lib.hid (B9.out.trans (b10.mono B9.out.size)); clear hd2 hc2 b10))
              have W10 := Lib.hid (W8.out.trans (B10.out.mono W8.out.size))
              have b11 := al (Below.refl w10.heap.size w10) (Obj.cells #[.int .u32 1] 68)
              have P5 := refplus_any A6 (some ⟨w10.heap.size, 0, none⟩) c6 1 (Q + Q) 1 (w10.alloc (Obj.cells #[.int .u32 1] 68)) ((D6b.out.1.below B10.out).below b11) (one_dl (heap_alloc_new w10 _)) LQ3.out
              rw [len_one] at P5
              have W11 := Lib.hid (W10.out.trans (b11.mono W10.out.size))
              have D11 := Lib.hid (And.intro (D10.out.1.below b11) D10.out.2)
              clear b11 g8 kz
              go_wp2_with (first | (go_at_call 48; (with_reducible refine P5.mono ?_); rintro e w12 ⟨⟨A8, c8, rfl, hd, hc⟩, b12⟩; have D12 := Lib.hid (And.intro hd hc); have B12 := Lib.hid b12; clear hd hc b12 P5))
              go_roundw
              case rel =>
                refine ⟨m, Q + Q + 1, R1' - y, A8, A7, c8, c7, (m : Int) - 1, by omega, by first | rfl | go_num, rfl, rfl, Lib.hid rfl, Lib.hid ⟨?_, ?_⟩, Lib.hid (W11.out.trans (B12.out.mono W11.out.size)), D12, Lib.hid ⟨D11.out.1.below B12.out, D11.out.2⟩⟩
                · rw [HST.out, Nat.add_mul (Q + Q) 1 y, Nat.one_mul]; have := HLE.out; omega
                · have := HRY.out; have := HLE.out; omega
              case measure => simp only [intOf]; omega
            · have kz : ¬ z ≥ 0 := by rw [HZZ.out]; unfold cmpI; rw [if_pos (by omega)]; omega
              have HLE := Lib.hid (Nat.lt_of_not_le hle)
              clear hle
              go_region_held3 (fun w' => w'.cell? ⟨w.heap.size + 1, 0, none⟩ = some (.slice B (dl y).length c2)) (first | exact g2.out | exact k2.out | exact l2.out) (first
                | (go_at_call 47; (with_reducible refine (trim_dl A5 c5 R1' false _ D5d.out D5b.out.2 LR1.out).mono ?_); rintro e w7 ⟨rfl, hd, b7⟩; have D7 := Lib.hid hd; have B7 := Lib.hid b7; have k2 := Lib.hid (cell_keep (show w6.drew.cell? _ = some _ from g2.out) b7); clear hd b7)
                | (go_at_call 49; (with_reducible refine (compare_any A5 B c5 c2 R1' y _ D7.out (HBd.out.below B7.out) LR1.out).mono ?_); rintro e w8 ⟨rfl, b8⟩; rw [← HZZ.out]; have B8 := Lib.hid (B7.out.trans (b8.mono B7.out.size)); have l2 := Lib.hid (cell_keep k2.out b8); clear b8))
              have W8 := Lib.hid (W6d.out.trans (B8.out.mono W6d.out.size))
              have D6b := Lib.hid (And.intro ((show DL w6.drew A6 (dl (Q + Q)) from D6.out.1).below B8.out) D6.out.2)
              have D5c := Lib.hid (And.intro (D5d.out.below B8.out) D5b.out.2)
              have HB8 := Lib.hid (HBd.out.below B8.out)
              have g8 := l2.out
              clear D6 D5b D5d HBd W6 W6d B7 B8 g2 k2 l2 D7
              rename_i hHd
              clear hHd
              clear g8
              go_wp2_with fail
              go_roundw
              case rel => exact ⟨m, Q + Q, R1', A6, A5, c6, c5, (m : Int) - 1, by omega, by first | rfl | go_num, rfl, rfl, Lib.hid rfl, Lib.hid ⟨HST.out, HLE.out⟩, W8, D6b, D5c⟩
              case measure => simp only [intOf]; omega
theorem refFloor_agg (a b : Int) (A B : Option Addr) (c c2 : Nat) (w : World) (ha : WD w A c a) (hb : WD w B c2 b) (hp : 0 < b) (la : dn a ≤ 800) (lb : dn b ≤ 800) :
    Calls Try.prog 40 #[.agg #[.slice A (dn a) c, .bool (sg a)], .agg #[.slice B (dn b) c2, .bool (sg b)]] w fun e w' => (∃ A' c', e = .returned (.agg #[.slice A' (dn (a / b)) c', .bool (sg (a / b))]) ∧ WD w' A' c' (a / b)) ∧ Below w.heap.size w w' := by
  have h := refFloor_raw A B c c2 a.natAbs b.natAbs (sg a) (sg b) w ha.1 hb.1 (by omega) la lb a rfl rfl
  rw [show ((b.natAbs : Nat) : Int) = b by omega] at h
  exact h
end Go.Proofs.Ytelfbjldfdlpnaa.TickW

