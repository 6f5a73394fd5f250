/- The heap's down. -/
import Derived.Test.YtmkgnkbcdkcboaaPqU
namespace Go.Proofs.Ytmkgnkbcdkcboaa.QueueW
open Go.RowKit
theorem dnC_end {i n j : Nat} {M : List It} (hj : (j = 2 * i + 1 ∧ ¬ 2 * i + 2 < n) ∨ (j = 2 * i + 1 ∧ ¬ lt (nth M (2 * i + 2)) (nth M (2 * i + 1))) ∨ (j = 2 * i + 2 ∧ lt (nth M (2 * i + 2)) (nth M (2 * i + 1)))) : ∀ c, c < n → 1 ≤ c → (c - 1) / 2 = i → ¬ lt (nth M c) (nth M j) := by
  intro c hc h1 hp
  rcases (show c = 2 * i + 1 ∨ c = 2 * i + 2 by omega) with rfl | rfl
  · rcases hj with ⟨rfl, _⟩ | ⟨rfl, _⟩ | ⟨rfl, g⟩
    · exact lt_irrefl _
    · exact lt_irrefl _
    · exact lt_asymm g
  · rcases hj with ⟨rfl, g⟩ | ⟨rfl, g⟩ | ⟨rfl, _⟩
    · exact absurd hc g
    · exact g
    · exact lt_irrefl _
set_option maxHeartbeats 8000000 in
set_option maxRecDepth 100000 in
theorem downC_any (k g c base lo i0 n : Nat) (L : List It) (w : World) (h : HeapC w w k g c base L L) (hk : ¬ k = g) (hn : n ≤ L.length) (h0 : i0 ≤ 65536) (hlo : lo ≤ i0) (hd : DnOk lo i0 n L) :
    Calls Try.prog 53 #[.iface 88 (.pointer (some ⟨k, 2, none⟩)), .int .i64 (i0 : Nat), .int .i64 (n : Nat)] w fun e w' => (∃ b, e = .returned (.bool b)) ∧ ∃ M, HeapC w w' k g c base L M ∧ HO lo n M ∧ ∀ t, n ≤ t → nth M t = nth L t := by
  have HH := Lib.hid h
  have HN := Lib.hid hn
  have HD := Lib.hid hd
  have HK := Lib.hid hk
  have HL := Lib.hid hlo
  have n1 : n ≤ 65536 := Nat.le_trans hn h.small
  clear h hn hd hk hlo
  go_enter Try.func53, Try.ntmps53
  go_wp2_with fail
  go_loopw [7] (fun iv wr => ∃ (i : Nat) (M : List It), iv = .int .i64 i ∧ i ≤ 65536 ∧ Hid (lo ≤ i) ∧ Hid (DnOk lo i n M) ∧ Hid (HeapC w wr k g c base L M) ∧ Hid (∀ t, n ≤ t → nth M t = nth L t)) (fun iv _ => (65536 - intOf iv).toNat)
  case atStart => exact ⟨i0, L, rfl, h0, HL, HD, HH, Lib.hid (fun _ _ => rfl)⟩
  case round =>
    clear HL HD HH
    obtain ⟨i, M, rfl, hi, HL, HD, HH, HT⟩ := hrel
    by_cases h1 : 2 * i + 1 < n
    · have mL := fun n => lessC_f n k _ wr HH.out.cell
      by_cases h2 : 2 * i + 2 < n
      · have h2' : 2 * (i : Int) + 1 + 1 < n := by omega
        have HC := HH.out.less (i := 2 * i + 2) (j := 2 * i + 1) (by have := HN.out; omega) (by have := HN.out; omega)
        rw [show ((2 * i + 2 : Nat) : Int) = 2 * (i : Int) + 1 + 1 by omega, show ((2 * i + 1 : Nat) : Int) = 2 * (i : Int) + 1 by omega] at HC
        by_cases hm : lt (nth M (2 * i + 2)) (nth M (2 * i + 1))
        · have HM := Lib.hid (dnC_end (i := i) (n := n) (M := M) (j := 2 * i + 2) (Or.inr (Or.inr ⟨rfl, hm⟩)))
          rw [decide_eq_true hm] at HC
          clear hm
          go_wp2_with fail
          refine HC.mono ?_
          rintro e w1 ⟨rfl, g1⟩
          have HH := Lib.hid g1
          clear HC g1 mL
          have mL := fun n => lessC_f n k _ w1 HH.out.cell
          have HC := HH.out.less (i := 2 * i + 2) (j := i) (by have := HN.out; omega) (by have := HN.out; omega)
          rw [show ((2 * i + 2 : Nat) : Int) = 2 * (i : Int) + 1 + 1 by omega] at HC
          by_cases hq : lt (nth M (2 * i + 2)) (nth M i)
          · have HQ := Lib.hid hq
            rw [decide_eq_true hq] at HC
            clear hq
            go_wp2_with fail
            refine HC.mono ?_
            rintro e w2 ⟨rfl, g2⟩
            have H2 := Lib.hid g2
            clear HC g2 mL
            have mS := fun n => swapC_f n k _ w2 H2.out.cell
            have HS := H2.out.swap HK.out (i := i) (j := 2 * i + 2) (by have := HN.out; omega) (by have := HN.out; omega)
            rw [show ((2 * i + 2 : Nat) : Int) = 2 * (i : Int) + 1 + 1 by omega] at HS
            go_wp2_with fail
            refine HS.mono ?_
            rintro e w3 ⟨rfl, g3⟩
            have H3 := Lib.hid g3
            clear HS g3 mS
            go_wp2_with fail
            go_roundw
            case rel => exact ⟨2 * i + 2, _, by rw [show ((2 * i + 2 : Nat) : Int) = 2 * (i : Int) + 1 + 1 by omega], by omega, Lib.hid (by have := HL.out; omega), Lib.hid (HD.out.step (by rw [HH.out.len]; exact HN.out) (by omega) (by omega) (by omega) HL.out HQ.out HM.out), H3, Lib.hid (fun t ht => by rw [nth_swp (by rw [HH.out.len]; have := HN.out; omega) (by rw [HH.out.len]; have := HN.out; omega), if_neg (by omega), if_neg (by omega)]; exact HT.out t ht)⟩
            case measure => simp only [intOf]; omega
          · have HQ := Lib.hid (show Not (lt (nth M (2 * i + 2)) (nth M i)) from hq)
            rw [decide_eq_false hq] at HC
            clear hq
            go_wp2_with fail
            refine HC.mono ?_
            rintro e w2 ⟨rfl, g2⟩
            have H2 := Lib.hid g2
            clear HC g2 mL
            go_wp2
            go_ret
            exact ⟨⟨_, rfl⟩, M, H2.out, HD.out.done (fun c hc c1 cp => nlt_trans HQ.out (HM.out c hc c1 cp)), HT.out⟩
        · have HM := Lib.hid (dnC_end (i := i) (n := n) (M := M) (j := 2 * i + 1) (Or.inr (Or.inl ⟨rfl, hm⟩)))
          rw [decide_eq_false hm] at HC
          clear hm
          go_wp2_with fail
          refine HC.mono ?_
          rintro e w1 ⟨rfl, g1⟩
          have HH := Lib.hid g1
          clear HC g1 mL
          have mL := fun n => lessC_f n k _ w1 HH.out.cell
          have HC := HH.out.less (i := 2 * i + 1) (j := i) (by have := HN.out; omega) (by have := HN.out; omega)
          rw [show ((2 * i + 1 : Nat) : Int) = 2 * (i : Int) + 1 by omega] at HC
          by_cases hq : lt (nth M (2 * i + 1)) (nth M i)
          · have HQ := Lib.hid hq
            rw [decide_eq_true hq] at HC
            clear hq
            go_wp2_with fail
            refine HC.mono ?_
            rintro e w2 ⟨rfl, g2⟩
            have H2 := Lib.hid g2
            clear HC g2 mL
            have mS := fun n => swapC_f n k _ w2 H2.out.cell
            have HS := H2.out.swap HK.out (i := i) (j := 2 * i + 1) (by have := HN.out; omega) (by have := HN.out; omega)
            rw [show ((2 * i + 1 : Nat) : Int) = 2 * (i : Int) + 1 by omega] at HS
            go_wp2_with fail
            refine HS.mono ?_
            rintro e w3 ⟨rfl, g3⟩
            have H3 := Lib.hid g3
            clear HS g3 mS
            go_wp2_with fail
            go_roundw
            case rel => exact ⟨2 * i + 1, _, by rw [show ((2 * i + 1 : Nat) : Int) = 2 * (i : Int) + 1 by omega], by omega, Lib.hid (by have := HL.out; omega), Lib.hid (HD.out.step (by rw [HH.out.len]; exact HN.out) (by omega) (by omega) (by omega) HL.out HQ.out HM.out), H3, Lib.hid (fun t ht => by rw [nth_swp (by rw [HH.out.len]; have := HN.out; omega) (by rw [HH.out.len]; have := HN.out; omega), if_neg (by omega), if_neg (by omega)]; exact HT.out t ht)⟩
            case measure => simp only [intOf]; omega
          · have HQ := Lib.hid (show Not (lt (nth M (2 * i + 1)) (nth M i)) from hq)
            rw [decide_eq_false hq] at HC
            clear hq
            go_wp2_with fail
            refine HC.mono ?_
            rintro e w2 ⟨rfl, g2⟩
            have H2 := Lib.hid g2
            clear HC g2 mL
            go_wp2
            go_ret
            exact ⟨⟨_, rfl⟩, M, H2.out, HD.out.done (fun c hc c1 cp => nlt_trans HQ.out (HM.out c hc c1 cp)), HT.out⟩
      · have h2' : ¬ 2 * (i : Int) + 1 + 1 < n := by omega
        have HM := Lib.hid (dnC_end (i := i) (n := n) (M := M) (j := 2 * i + 1) (Or.inl ⟨rfl, h2⟩))
        have HC := HH.out.less (i := 2 * i + 1) (j := i) (by have := HN.out; omega) (by have := HN.out; omega)
        rw [show ((2 * i + 1 : Nat) : Int) = 2 * (i : Int) + 1 by omega] at HC
        by_cases hq : lt (nth M (2 * i + 1)) (nth M i)
        · have HQ := Lib.hid hq
          rw [decide_eq_true hq] at HC
          clear hq
          go_wp2_with fail
          refine HC.mono ?_
          rintro e w2 ⟨rfl, g2⟩
          have H2 := Lib.hid g2
          clear HC g2 mL
          have mS := fun n => swapC_f n k _ w2 H2.out.cell
          have HS := H2.out.swap HK.out (i := i) (j := 2 * i + 1) (by have := HN.out; omega) (by have := HN.out; omega)
          rw [show ((2 * i + 1 : Nat) : Int) = 2 * (i : Int) + 1 by omega] at HS
          go_wp2_with fail
          refine HS.mono ?_
          rintro e w3 ⟨rfl, g3⟩
          have H3 := Lib.hid g3
          clear HS g3 mS
          go_wp2_with fail
          go_roundw
          case rel => exact ⟨2 * i + 1, _, by rw [show ((2 * i + 1 : Nat) : Int) = 2 * (i : Int) + 1 by omega], by omega, Lib.hid (by have := HL.out; omega), Lib.hid (HD.out.step (by rw [HH.out.len]; exact HN.out) (by omega) (by omega) (by omega) HL.out HQ.out HM.out), H3, Lib.hid (fun t ht => by rw [nth_swp (by rw [HH.out.len]; have := HN.out; omega) (by rw [HH.out.len]; have := HN.out; omega), if_neg (by omega), if_neg (by omega)]; exact HT.out t ht)⟩
          case measure => simp only [intOf]; omega
        · have HQ := Lib.hid (show Not (lt (nth M (2 * i + 1)) (nth M i)) from hq)
          rw [decide_eq_false hq] at HC
          clear hq
          go_wp2_with fail
          refine HC.mono ?_
          rintro e w2 ⟨rfl, g2⟩
          have H2 := Lib.hid g2
          clear HC g2 mL
          go_wp2
          go_ret
          exact ⟨⟨_, rfl⟩, M, H2.out, HD.out.done (fun c hc c1 cp => nlt_trans HQ.out (HM.out c hc c1 cp)), HT.out⟩
    · have h1' : (n : Int) ≤ 2 * (i : Int) + 1 := by omega
      go_wp2
      go_ret
      exact ⟨⟨_, rfl⟩, M, HH.out, HD.out.done (fun c hc c1 cp => by omega), HT.out⟩
end Go.Proofs.Ytmkgnkbcdkcboaa.QueueW
