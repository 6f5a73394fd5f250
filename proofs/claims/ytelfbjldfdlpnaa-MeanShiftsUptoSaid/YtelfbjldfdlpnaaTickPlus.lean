/- The document's numbers: plus. -/
import Derived.Test.YtelfbjldfdlpnaaTickCmp
namespace Go.Proofs.Ytelfbjldfdlpnaa.TickW
open Go.RowKit
theorem dl_getD (x k : Nat) : (dl x).getD k 0 = x / 65536 ^ k % 65536 := by
  have h := dl_get x k
  show ((dl x)[k]?).getD 0 = _
  rw [h]
  split
  · rfl
  · rename_i h0
    have : x / 65536 ^ k = 0 := Nat.eq_zero_of_not_pos h0
    rw [this]; rfl
theorem div_pow_succ (x k : Nat) : x / 65536 ^ (k + 1) = x / 65536 ^ k / 65536 := by rw [Nat.pow_succ, ← Nat.div_div_eq_div_mul]
theorem own_slice {w : World} {base k : Nat} {v : Value} {xs : List Value} {t : TypeId} (h : w.ownsRow base t 1 v k xs) : ∃ A cap, v = .slice A k cap := by
  rcases h.2 with ⟨hv, h0⟩ | ⟨g, cap, cur, hv, _⟩
  · subst h0; exact ⟨none, 0, hv⟩
  · exact ⟨_, cap, hv⟩
set_option maxHeartbeats 4000000 in
set_option maxRecDepth 100000 in
theorem refplus_any (A B : Option Addr) (c c2 x y : Nat) (w : World) (ha : DL w A (dl x)) (hb : DL w B (dl y)) (hl : (dl (x + y)).length ≤ 1000) :
    Calls Try.prog 48 #[.slice A (dl x).length c, .slice B (dl y).length c2] w fun e w' => (∃ A' c', e = .returned (.slice A' (dl (x + y)).length c') ∧ DL w' A' (dl (x + y)) ∧ (dl (x + y)).length ≤ c') ∧ Below w.heap.size w w' := by
  obtain ⟨i0, hi, hz0, hz1, hz2⟩ := u32_info
  have HI := Lib.hid hi
  have HZ0 := Lib.hid hz0
  have HZ1 := Lib.hid hz1
  have HZ2 := Lib.hid hz2
  have HA := Lib.hid ha
  have HB := Lib.hid hb
  have HL := Lib.hid hl
  have LX := Lib.hid (dl_lt_length x)
  have LY := Lib.hid (dl_lt_length y)
  have LS := Lib.hid (dl_lt_length (x + y))
  clear hi hz0 hz1 hz2 ha hb hl
  go_enter Try.func48, Try.ntmps48
  go_wp2_with fail
  go_loopw [5, 6, 7] (fun r cy i wr => ∃ (k b : Nat), k ≤ (dl (x + y)).length ∧ i = .int .i64 (k : Int) ∧ cy = .int .u32 (b : Int) ∧ Hid (x / 65536 ^ k + y / 65536 ^ k + b = (x + y) / 65536 ^ k ∧ b ≤ 1) ∧ Hid (Below w.heap.size w wr) ∧ Hid (wr.ownsRow w.heap.size 68 1 r k (u32s ((dl (x + y)).take k))) ∧ Hid (w.heap.size ≤ wr.heap.size)) (fun _ _ i _ => (dl (x + y)).length - (intOf i).toNat)
  case atStart => exact ⟨0, 0, Nat.zero_le _, rfl, rfl, Lib.hid (by simp), Lib.hid (Below.refl _ _), Lib.hid ⟨rfl, Or.inl ⟨rfl, rfl⟩⟩, Lib.hid (Nat.le_refl _)⟩
  case round =>
    obtain ⟨k, b, hk, rfl, rfl, HV, HW, HO, HS⟩ := hrel
    obtain ⟨R, cap, rfl⟩ := own_slice HO.out
    obtain ⟨hv, hb1⟩ := HV.out
    have lx := LX.out k
    have ly := LY.out k
    have ls := LS.out k
    have HQX := Lib.hid (div_pow_succ x k)
    have HQY := Lib.hid (div_pow_succ y k)
    have HQS := Lib.hid (div_pow_succ (x + y) k)
    have HT := Lib.hid (dl_take_succ (x + y) k)
    have DX := fun W (h : DL W A (dl x)) => digit_any A c k (dl x) W h
    have DY := fun W (h : DL W B (dl y)) => digit_any B c2 k (dl y) W h
    rw [dl_getD] at DX DY
    generalize hX : x / 65536 ^ k = X at *
    generalize hY : y / 65536 ^ k = Y at *
    generalize hS : (x + y) / 65536 ^ k = S at *
    obtain ⟨n, hn⟩ : ∃ n, n = (dl (x + y)).length := ⟨_, rfl⟩
    rw [← hn] at hk ls
    clear hX hY hS
    have HLX := Lib.hid lx
    have HLY := Lib.hid ly
    have HLS := Lib.hid ls
    clear lx ly ls
    have HLN := Lib.hid hn
    clear hn hv
    go_upto_region 4 with (fail)
    go_cut [22] (fun s22 wx => s22 = .bool (decide (0 < S)) ∧ wx = wr)
    case first =>
      clear DX DY
      by_cases h1 : k < (dl x).length
      · have HE := Lib.hid (show decide (0 < S) = true by have := HLX.out.1 h1; have := HV.out; exact decide_eq_true (by omega))
        have q1 : (k : Int) < ((dl x).length : Int) := by omega
        go_wp2
        go_meet
        exact ⟨by rw [HE.out], rfl⟩
      · have q1 : ¬ (k : Int) < ((dl x).length : Int) := by omega
        by_cases h2 : k < (dl y).length
        · have HE := Lib.hid (show decide (0 < S) = true by have := HLY.out.1 h2; have := HV.out; exact decide_eq_true (by omega))
          have q2 : (k : Int) < ((dl y).length : Int) := by omega
          go_wp2
          go_meet
          exact ⟨by rw [HE.out], rfl⟩
        · have q2 : ¬ (k : Int) < ((dl y).length : Int) := by omega
          have HE := Lib.hid (show decide (0 < S) = decide (0 < b) by
            have h3 := mt HLX.out.2 h1
            have h4 := mt HLY.out.2 h2
            have := HV.out
            exact decide_eq_decide.2 ⟨fun h => by omega, fun h => by omega⟩)
          go_wp2
          go_meet
          exact ⟨by rw [HE.out], rfl⟩
    case rest =>
      obtain ⟨rfl, rfl⟩ := hcut
      have hb1 := HV.out.2
      by_cases hS : 0 < S
      · have kS : decide (0 < S) = true := decide_eq_true hS
        rw [kS]
        have hlt := HLS.out.2 hS
        have HK := Lib.hid hlt
        have hT := HT.out (by rw [← HLN.out]; exact hlt)
        have HT2 := Lib.hid hT
        have HS0 := Lib.hid hS
        have hs : ((X % 65536 + Y % 65536 + b) % 65536) = S % 65536 := by have := HV.out; omega
        have hs2 : X / 65536 + Y / 65536 + (X % 65536 + Y % 65536 + b) / 65536 = S / 65536 := by have := HV.out; omega
        have hs3 : (X % 65536 + Y % 65536 + b) / 65536 ≤ 1 := by omega
        have HV2 := Lib.hid (And.intro hs2 hs3)
        have HD := Lib.hid hs
        have dx1 : X % 65536 < 65536 := Nat.mod_lt _ (by decide)
        have dy1 : Y % 65536 < 65536 := Nat.mod_lt _ (by decide)
        have HNL := Lib.hid (show n ≤ 1000 by rw [HLN.out]; exact HL.out)
        clear hT HT hS hs hs2 hs3 kS hlt hk
        generalize X % 65536 = dx at *
        generalize Y % 65536 = dy at *
        go_upto_region 7 with (first
          | (go_at_call 64; (with_reducible refine (DX _ (HA.out.below HW.out)).mono ?_); rintro e w2 ⟨rfl, rfl⟩)
          | (go_at_call 64; (with_reducible refine (DY _ (HB.out.below HW.out)).mono ?_); rintro e w2 ⟨rfl, rfl⟩))
        clear DX DY
        go_wp2_with (at_builtin; refine wpList_append_own _ rfl _ _ 60 rfl w.heap.size 68 i0 (.int .u32 0) 1 4 Try.underlying60 HI.out HZ0.out HZ1.out HZ2.out rfl (by decide) _ _ _ rfl (HO.out.alloc _) ⟨w2.heap.size, 0, none⟩ 1 1 [.int .u32 (((dx : Int) + (dy : Int) + (b : Int)) % 65536)] rfl rfl ?c1 ?c2 ?c3 ?c4 ?c5 ?_)
        case c1 => exact (cell_one_new _ _ _)
        case c2 => intro u hu; simp at hu; subst hu; rfl
        case c3 => have := HK.out; have := HNL.out; unfold maxLen; omega
        case c4 => have := HK.out; have := HNL.out; omega
        case c5 => rw [World.size_alloc]; have := HS.out; omega
        intro v' w3 hown2 hgrow _
        obtain ⟨A', cap', rfl⟩ := own_slice hown2
        have HO2 := Lib.hid (show w3.ownsRow w.heap.size 68 1 (.slice A' (k + 1) cap') (k + 1) (u32s ((dl (x + y)).take (k + 1))) by
          rw [HT2.out, ← HD.out]; unfold u32s; rw [List.map_append]
          have e : ((((dx + dy + b) % 65536 : Nat) : Int)) = ((dx : Int) + (dy : Int) + (b : Int)) % 65536 := by omega
          show w3.ownsRow w.heap.size 68 1 (.slice A' (k + 1) cap') (k + 1) (_ ++ [.int .u32 (((dx + dy + b) % 65536 : Nat) : Int)])
          rw [e]
          exact hown2)
        have HW2 : Hid (Below w.heap.size w2 w3) := Lib.hid (((Below.refl w.heap.size w2).alloc HS.out _).grown hgrow (by rw [World.size_alloc]; have := HS.out; omega) (fun g hg => (HO.out.lt g hg).1))
        have e2 : (((dx : Int) + (dy : Int) + (b : Int)) / 65536) = (((dx + dy + b) / 65536 : Nat) : Int) := by omega
        have HE2 := Lib.hid e2
        have kk : k ≤ 1000 := by have := HK.out; have := HNL.out; omega
        clear hown2 hgrow e2
        go_wp2
        go_roundw
        case rel => exact ⟨k + 1, (dx + dy + b) / 65536, by rw [← HLN.out]; exact HK.out, by first | rfl | go_num, by first | rfl | rw [HE2.out] | skip, Lib.hid (by rw [HQX.out, HQY.out, HQS.out]; exact HV2.out), Lib.hid (HW.out.trans HW2.out), HO2, Lib.hid (Nat.le_trans HS.out (by have := HW2.out.size; omega))⟩
        case measure => have := HK.out; have := HLN.out; simp only [intOf]; omega
      · have kS : decide (0 < S) = false := decide_eq_false hS
        rw [kS]
        obtain rfl : k = n := by have := HLS.out; omega
        have hO := HO.out
        rw [HLN.out, List.take_length, ← HLN.out] at hO
        have HO2 := Lib.hid hO
        clear hO kS hS hk DX DY
        go_wp2
        go_ret
        obtain ⟨A2, c3, he, hd, hcc⟩ := own_dl HO2.out HLN.out.symm
        exact ⟨⟨A2, c3, by rw [← HLN.out, ← he]; rfl, hd, by rw [← HLN.out]; exact hcc⟩, HW.out⟩
end Go.Proofs.Ytelfbjldfdlpnaa.TickW

