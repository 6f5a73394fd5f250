/- The document's numbers: Mul. -/
import Derived.Test.YtkbkjbnfkgncdaaDoorTickRMulA
import Derived.Deep.RegionHeld3
import Derived.Deep.OwnRows
namespace Go.Proofs.YtkbkjbnfkgncdaaDoor.TickW
open Go.RowKit
set_option maxHeartbeats 4000000 in
set_option maxRecDepth 100000 in
theorem refMul_raw (A B : Option Addr) (c c2 x y : Nat) (p q : Bool) (w : World) (ha : DL w A (dl x)) (hb : DL w B (dl y)) (hl : (dl x).length ≤ 400) (hl2 : (dl y).length ≤ 400) :
    Calls Tryd.prog 18 #[.agg #[.slice A (dl x).length c, .bool p], .agg #[.slice B (dl y).length c2, .bool q]] w fun e w' => (∃ (A' : Option Addr) (c' : Nat), e = .returned (.agg #[.slice A' (dl (x * y)).length c', .bool ((!(p == q)) && decide (0 < x * y))]) ∧ DL w' A' (dl (x * y)) ∧ (dl (x * y)).length ≤ c') ∧ Below w.heap.size w w' := by
  obtain ⟨N, hN⟩ : ∃ N, N = (dl x).length + (dl y).length + 1 := ⟨_, rfl⟩
  have hmk : ∀ w : World, (Instr.makeSlice 26 (.int .i64 (N : Int)) (.int .i64 (N : Int))).run Tryd.prog w = .ok (.slice (some ⟨w.heap.size, 0, none⟩) N N) (w.alloc (.cells (madeCells #[.int .u32 0] N) 54)) := fun w =>
    run_make_row' 26 54 (.int .u32 0) 4 Tryd.underlying26 (by kernel_rfl) rfl .i64 .i64 N (by omega) (by omega) w
  rw [made_u32] at hmk
  have eN : ((dl x).length : Int) + ((dl y).length : Int) + 1 = (N : Int) := by omega
  have HA := Lib.hid ha
  have HB := Lib.hid hb
  have HNX := Lib.hid hN
  have HLX := Lib.hid hl
  have HLY := Lib.hid hl2
  obtain ⟨Z, hZ⟩ : ∃ Z, Z = (u32s (List.replicate N 0)).toArray := ⟨_, rfl⟩
  rw [← hZ] at hmk
  have HZ := Lib.hid hZ
  clear ha hb hN hZ
  go_enter Tryd.func18, Tryd.ntmps18
  go_upto_region 1 with (fail)
  have h3 := alloc3 w (Obj.cells #[.slice A (dl x).length c, .bool p] 28) (Obj.cells #[.slice B (dl y).length c2, .bool q] 28) (Obj.cells #[.slice none 0 0, .bool false] 28)
  have s0 : (((w.alloc (Obj.cells #[.slice A (dl x).length c, .bool p] 28)).alloc (Obj.cells #[.slice B (dl y).length c2, .bool q] 28)).alloc (Obj.cells #[.slice none 0 0, .bool false] 28)).heap.size = w.heap.size + 1 + 1 + 1 := by simp
  generalize ((w.alloc (Obj.cells #[.slice A (dl x).length c, .bool p] 28)).alloc (Obj.cells #[.slice B (dl y).length c2, .bool q] 28)).alloc (Obj.cells #[.slice none 0 0, .bool false] 28) = W0 at *
  obtain ⟨⟨h1, h2, h3⟩, hb0⟩ := h3
  have g0 : W0.cell? ⟨w.heap.size, 0, none⟩ = some (.slice A (dl x).length c) := cell_of_row W0 _ 0 _ _ _ h1
  have g2 : W0.cell? ⟨w.heap.size + 1, 0, none⟩ = some (.slice B (dl y).length c2) := cell_of_row W0 _ 0 _ _ _ h2
  have R1 := Lib.hid h1
  have R2 := Lib.hid h2
  have R3 := Lib.hid h3
  have BW := Lib.hid hb0
  have HS0 := Lib.hid s0
  clear h1 h2 h3 hb0 s0
  go_wp2_with fail
  have hb1 := al (Below.refl W0.heap.size W0) (Obj.cells Z 54)
  have c1 := heap_alloc_new W0 (Obj.cells Z 54)
  obtain ⟨G, hG⟩ : ∃ G, G = W0.heap.size := ⟨_, rfl⟩
  rw [← hG] at hb1 c1 ⊢
  generalize W0.alloc (Obj.cells Z 54) = W1 at *
  have HG := Lib.hid hG
  have HB1 := Lib.hid hb1
  have BW1 := Lib.hid (show Below w.heap.size w W1 from BW.out.trans (hb1.mono (by rw [hG]; exact BW.out.size)))
  have C1 := Lib.hid (show W1.heap[G]? = some (.cells (u32s (List.replicate N 0)).toArray 54 (0, 0)) by rw [c1, HZ.out])
  have Q1 := Lib.hid (show W1.heap[w.heap.size]? = some _ from (hb1.block _ (by rw [hG, HS0.out]; omega)).trans R1.out)
  have Q2 := Lib.hid (show W1.heap[w.heap.size + 1]? = some _ from (hb1.block _ (by rw [hG, HS0.out]; omega)).trans R2.out)
  have Q3 := Lib.hid (show W1.heap[w.heap.size + 1 + 1]? = some _ from (hb1.block _ (by rw [hG, HS0.out]; omega)).trans R3.out)
  have HGS := Lib.hid (show G = w.heap.size + 1 + 1 + 1 by rw [hG, HS0.out])
  clear hG hb1 c1 g0 g2 eN hmk hl hl2 R1 R2 R3 BW HS0 HZ HB1
  go_loopw [6] (fun i wr => ∃ (k : Nat) (rs : List Nat), k ≤ (dl x).length ∧ i = .int .i64 (k : Int) ∧ Hid (val rs = x % 65536 ^ k * y) ∧ Hid (rs.length = N ∧ ∀ d ∈ rs, d < 65536) ∧ Hid (Below G W1 wr) ∧ Hid (wr.heap[G]? = some (.cells (u32s rs).toArray 54 (0, 0)))) (fun i _ => (dl x).length - (intOf i).toNat)
  case atStart =>
    refine ⟨0, List.replicate N 0, Nat.zero_le _, rfl, Lib.hid ?_, Lib.hid ⟨List.length_replicate, fun d hd => ?_⟩, Lib.hid (Below.refl _ _), C1⟩
    · rw [val_zeros, Nat.pow_zero, Nat.mod_one, Nat.zero_mul]
    · rw [List.eq_of_mem_replicate hd]; decide
  case round =>
    obtain ⟨k, rs, hk, rfl, HV, HR, HB2, HC⟩ := hrel
    clear C1
    have g0 : wr.cell? ⟨w.heap.size, 0, none⟩ = some (.slice A (dl x).length c) := cell_of_row wr _ 0 _ _ _ ((HB2.out.block _ (by rw [HGS.out]; omega)).trans Q1.out)
    by_cases hlt : k < (dl x).length
    · have hgx := dl_get x k
      rw [if_pos ((dl_lt_length x k).1 hlt)] at hgx
      have HGX := Lib.hid hgx
      have HK := Lib.hid hlt
      have k4 : k < 400 := by have := HLX.out; omega
      have q1 : (k : Int) < ((dl x).length : Int) := by omega
      clear hgx hlt hk
      go_wp2_with fail
      clear g0
      obtain ⟨w0, hw0⟩ : ∃ w0, w0 = wr := ⟨_, rfl⟩
      subst hw0
      go_loopw [7, 8] (fun cy j wr => ∃ (j0 c0 : Nat) (rs : List Nat), j0 ≤ N ∧ j = .int .i64 (j0 : Int) ∧ cy = .int .u32 (c0 : Int) ∧ c0 < 65536 ∧ Hid (val rs + c0 * (65536 ^ k * 65536 ^ j0) = x % 65536 ^ k * y + x / 65536 ^ k % 65536 * (y % 65536 ^ j0 * 65536 ^ k)) ∧ Hid (rs.length = N ∧ ∀ d ∈ rs, d < 65536) ∧ Hid (Below G W1 wr) ∧ Hid (wr.heap[G]? = some (.cells (u32s rs).toArray 54 (0, 0)))) (fun _ j _ => N - (intOf j).toNat)
      case atStart => exact ⟨0, 0, rs, Nat.zero_le _, rfl, rfl, by decide, Lib.hid (by rw [HV.out]; simp [Nat.mod_one]), HR, HB2, HC⟩
      case round =>
        clear HV HR HB2 HC
        obtain ⟨j0, c0, rs, hq, rfl, rfl, hc0, HV, HR, HB2, HC⟩ := hrel
        have g0 : wr.cell? ⟨w.heap.size, 0, none⟩ = some (.slice A (dl x).length c) := cell_of_row wr _ 0 _ _ _ ((HB2.out.block _ (by rw [HGS.out]; omega)).trans Q1.out)
        have g2 : wr.cell? ⟨w.heap.size + 1, 0, none⟩ = some (.slice B (dl y).length c2) := cell_of_row wr _ 0 _ _ _ ((HB2.out.block _ (by rw [HGS.out]; omega)).trans Q2.out)
        go_upto_region 7 with (fail)
        go_cut [34] (fun s34 wx => s34 = .bool (decide (j0 < (dl y).length ∨ 0 < c0)) ∧ wx = wr)
        case first =>
          by_cases h1 : j0 < (dl y).length
          · have HE := Lib.hid (show decide (j0 < (dl y).length ∨ 0 < c0) = true from decide_eq_true (Or.inl h1))
            have q1 : (j0 : Int) < ((dl y).length : Int) := by omega
            go_wp2
            go_meet
            exact ⟨by rw [HE.out], rfl⟩
          · have HE := Lib.hid (show decide (j0 < (dl y).length ∨ 0 < c0) = decide (0 < c0) from decide_eq_decide.2 ⟨fun h => h.elim (fun h2 => absurd h2 h1) id, Or.inr⟩)
            have q1 : ¬ (j0 : Int) < ((dl y).length : Int) := by omega
            go_wp2
            go_meet
            exact ⟨by rw [HE.out], rfl⟩
        case rest =>
          obtain ⟨rfl, hwc⟩ := hcut
          cases hwc
          by_cases hrun : j0 < (dl y).length ∨ 0 < c0
          · have kr : decide (j0 < (dl y).length ∨ 0 < c0) = true := decide_eq_true hrun
            rw [kr]
            clear kr
            have hidx : k + j0 < (dl x).length + (dl y).length := by
              rcases hrun with h | h
              · have := HK.out; omega
              · exact mul_index HV.out h
            obtain ⟨t, ht⟩ : ∃ t, t = k + j0 := ⟨_, rfl⟩
            have htN : t < N := by rw [ht, HNX.out]; omega
            have hN8 : N ≤ 801 := by rw [HNX.out]; have := HLX.out; have := HLY.out; omega
            obtain ⟨d0, hd0⟩ : ∃ d0, rs[t]? = some d0 := ⟨_, List.getElem?_eq_getElem (by rw [HR.out.1]; exact htN)⟩
            have d0b : d0 < 65536 := HR.out.2 d0 (List.mem_of_getElem? hd0)
            obtain ⟨a, hae, hca⟩ := (HA.out.below (BW1.out.trans (HB2.out.mono (by rw [HGS.out]; omega)))) k _ HGX.out
            subst hae
            have DY := digit_any B c2 j0 (dl y) wr.drew (HB.out.below (BW1.out.trans (HB2.out.drew.mono (by rw [HGS.out]; omega))))
            rw [dl_getD] at DY
            have hv1 := HV.out
            have hpk := mod_pow_succ y j0
            have hdb : x / 65536 ^ k % 65536 < 65536 := Nat.mod_lt _ (by decide)
            have hyb : y / 65536 ^ j0 % 65536 < 65536 := Nat.mod_lt _ (by decide)
            generalize hdd : x / 65536 ^ k % 65536 = d at *
            have HDD := Lib.hid hdd
            clear hdd
            generalize y / 65536 ^ j0 % 65536 = yd at *
            have hmb : d * yd ≤ 65535 * 65535 := Nat.mul_le_mul (by omega) (by omega)
            obtain ⟨s, hs⟩ : ∃ s, s = d * yd + d0 + c0 := ⟨_, rfl⟩
            have HE9 := Lib.hid (u64_chain d yd d0 c0 hdb hyb d0b hc0)
            rw [← hs] at HE9
            have hst := mul_step (val rs) (val (rs.set t (s % 65536))) _ d yd d0 c0 (65536 ^ k) (65536 ^ j0) (y % 65536 ^ j0) s hs hv1 (by
              have := val_set rs t d0 (s % 65536) hd0
              rw [ht, Nat.pow_add] at this
              rw [ht]
              exact this)
            rw [← hpk, ← Nat.pow_succ] at hst
            have HST := Lib.hid hst
            have HT := Lib.hid ht
            have hcell := row_get HC.out hd0
            have hfr := frozen_of_row wr G t _ _ HC.out
            have em : (d : Int) * (yd : Int) = ((d * yd : Nat) : Int) := (Int.natCast_mul _ _).symm
            generalize hm : d * yd = m at *
            have hm2 : m ≤ 4294836225 := by omega
            have ek : (k : Int) + (j0 : Int) = (t : Int) := by omega
            have es : (m : Int) + (d0 : Int) + (c0 : Int) = (s : Int) := by omega
            have hsb : s ≤ 4294967295 := by omega
            have x1 : IntKind.u32.wrap ((s : Int) % 65536) = ((s % 65536 : Nat) : Int) := by simp [IntKind.wrap, IntKind.bits, IntKind.signed]; omega
            have x3 : IntKind.u32.wrap ((s : Int) / 65536) = ((s / 65536 : Nat) : Int) := by simp [IntKind.wrap, IntKind.bits, IntKind.signed]; omega
            have hs3 : s / 65536 < 65536 := by omega
            have HS3 := Lib.hid hs3
            have HR2 := Lib.hid (show (rs.set t (s % 65536)).length = N ∧ ∀ d ∈ rs.set t (s % 65536), d < 65536 from ⟨by rw [List.length_set]; exact HR.out.1, fun u hu => (List.mem_or_eq_of_mem_set hu).elim (HR.out.2 u) (fun h => by rw [h]; exact Nat.mod_lt _ (by decide))⟩)
            have t0 : (0 : Int) ≤ (t : Int) := by omega
            have t1 : (t : Int) < (N : Int) := by omega
            have k0 : (0 : Int) ≤ (k : Int) := by omega
            have ew1 : IntKind.i64.wrap ((k : Int) + (j0 : Int)) = (t : Int) := by rw [ek]; simp [IntKind.wrap, IntKind.bits, IntKind.signed]; omega
            have ew2 : IntKind.i64.wrap (t : Int) = (t : Int) := by simp [IntKind.wrap, IntKind.bits, IntKind.signed]; omega
            clear hm hs hst ht hpk hv1 hidx hrun hd0 hs3 d0b hdb hyb hmb
            go_wp2_with fail
            go_region_held3 (fun w' => w'.cell? ⟨w.heap.size, 0, none⟩ = some (.slice (some a) (dl x).length c) ∧ w'.cell? (a.add k) = some (.int .u32 (d : Int)) ∧ w'.cell? ⟨w.heap.size + 1, 0, none⟩ = some (.slice B (dl y).length c2) ∧ w'.cell? ⟨G, t, none⟩ = some (.int .u32 (d0 : Int))) (go_keep) (first | (go_at_call 42; (with_reducible refine DY.mono ?_); rintro e w2 ⟨rfl, hw2⟩; cases hw2))
            rw [HE9.out]
            have HWd := Lib.hid (show Below G W1 wr.drew from HB2.out.drew)
            have HCd := Lib.hid (show wr.drew.heap[G]? = some (.cells (u32s rs).toArray 54 (0, 0)) from HC.out)
            have hcell2 : wr.drew.cell? ⟨G, t, none⟩ = some (.int .u32 (d0 : Int)) := hcell
            have hfr2 : wr.drew.frozen? ⟨G, t, none⟩ = false := hfr
            clear hcell hfr DY HC HB2 HR g0 g2 hca
            rename_i hHd
            clear hHd
            generalize wr.drew = w2 at *
            go_wp2
            go_roundw
            case rel =>
              refine ⟨j0 + 1, s / 65536, rs.set t (s % 65536), by have := HT.out; omega, by first | rfl | go_num, by first | rfl | rw [x3], HS3.out, Lib.hid (by rw [HDD.out]; exact HST.out), HR2, Lib.hid (HWd.out.setCell (Nat.le_refl _) _), Lib.hid ?_⟩
              rw [← u32s_set]
              exact heap_setCell_same _ G t _ _ _ HCd.out
            case measure => simp only [intOf]; omega
          · have kr : decide (j0 < (dl y).length ∨ 0 < c0) = false := decide_eq_false hrun
            rw [kr]
            have h0 : c0 = 0 := by omega
            subst h0
            have hv : val rs = x % 65536 ^ (k + 1) * y := by
              have h1 := HV.out
              have h2 : y < 65536 ^ j0 := Nat.lt_of_lt_of_le (lt_pow_len y) (pow_mono (by omega))
              rw [Nat.zero_mul, Nat.add_zero, Nat.mod_eq_of_lt h2, mul_row] at h1
              exact h1
            have HV2 := Lib.hid hv
            clear kr hrun hv
            go_wp2_with fail
            go_roundw
            case rel => exact ⟨k + 1, rs, HK.out, by first | rfl | go_num, HV2, HR, HB2, HC⟩
            case measure => have := HK.out; simp only [intOf]; omega
    · obtain rfl : k = (dl x).length := by omega
      have hv : val rs = x * y := by rw [HV.out, Nat.mod_eq_of_lt (lt_pow_len x)]
      have T := trim_any (some ⟨G, 0, none⟩) N rs (!(p == q)) wr (row_dl HC.out) HR.out.2 (by rw [HR.out.1]; exact Nat.le_refl _) (by rw [HR.out.1, HNX.out]; have := HLX.out; have := HLY.out; omega)
      rw [HR.out.1, hv] at T
      have g1 : wr.cell? ⟨w.heap.size, 1, none⟩ = some (.bool p) := cell_of_row wr _ 1 _ _ _ ((HB2.out.block _ (by rw [HGS.out]; omega)).trans Q1.out)
      have g3 : wr.cell? ⟨w.heap.size + 1, 1, none⟩ = some (.bool q) := cell_of_row wr _ 1 _ _ _ ((HB2.out.block _ (by rw [HGS.out]; omega)).trans Q2.out)
      have R := Lib.hid (show wr.heap[w.heap.size + 1 + 1]? = some _ from (HB2.out.block _ (by rw [HGS.out]; omega)).trans Q3.out)
      have BF := Lib.hid (BW1.out.trans (HB2.out.mono (by rw [HGS.out]; omega)))
      clear hv hlt hk
      go_wp2_with (first | (go_at_call 38; (with_reducible refine T.mono ?_); rintro e w2 ⟨rfl, hd2, hc2, b2⟩; have HD2 := Lib.hid hd2; have HC2 := Lib.hid hc2; have r2 := Lib.hid (row_below b2 R.out); have B2 := Lib.hid (BF.out.trans (b2.mono BF.out.size)); have z0 : w2.cell? ⟨w.heap.size + 1 + 1, 0, none⟩ = some (.slice none 0 0) := cell_of_row w2 (w.heap.size + 1 + 1) 0 _ _ _ r2.out; have z1 : w2.cell? ⟨w.heap.size + 1 + 1, 1, none⟩ = some (.bool false) := cell_of_row w2 (w.heap.size + 1 + 1) 1 _ _ _ r2.out; have fr0 := frozen_of_row w2 (w.heap.size + 1 + 1) 0 _ _ r2.out; have fr1 := frozen_of_row w2 (w.heap.size + 1 + 1) 1 _ _ r2.out; clear hd2 hc2 b2))
      exact ret_ref_set rfl rfl r2.out ⟨⟨_, _, rfl, dl_store HD2.out r2.out _ _, HC2.out⟩, setRef_below B2.out (by omega) _ _⟩
end Go.Proofs.YtkbkjbnfkgncdaaDoor.TickW
