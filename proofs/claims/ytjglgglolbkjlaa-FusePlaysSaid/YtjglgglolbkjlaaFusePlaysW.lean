/- The law FusePlays, of any Play that is as asked. -/
import Derived.Test.YtjglgglolbkjlaaFuseJ
import Derived.Test.YtjglgglolbkjlaaBools
namespace Go.Proofs.Ytjglgglolbkjlaa.FuseW.FusePlays
open Go.RowKit FuseW Shell
set_option maxHeartbeats 1000000 in
theorem most_any (n : Int) (w : World) : Calls Try.prog 10 #[.int .i64 n] w fun r w' => r = .returned (.int .i64 (bear n)) ∧ w = w' := by
  unfold bear
  by_cases h1 : n < 0
  · rw [if_pos h1]
    go_enter Try.func10, Try.ntmps10
    go_wp2
    go_ret
    exact ⟨rfl, rfl⟩
  · rw [if_neg h1]
    by_cases h2 : 4096 < n
    · rw [if_pos h2]
      go_enter Try.func10, Try.ntmps10
      go_wp2
      go_ret
      exact ⟨rfl, rfl⟩
    · rw [if_neg h2]
      go_enter Try.func10, Try.ntmps10
      go_wp2
      go_ret
      exact ⟨rfl, rfl⟩
set_option maxHeartbeats 4000000 in
theorem step_any (most c n : Int) (w : World) (hc : 0 ≤ c ∧ c ≤ bear most + 1) : Calls Try.prog 9 #[.int .i64 most, .int .i64 c, .int .i64 n] w fun r w' => r = .returned (.tuple #[.int .u8 (lett (bear most) c n), .int .i64 (cau (bear most) c n)]) ∧ w = w' := by
  have KM := Lib.hid (fun Z => most_any most Z)
  have hb := bear_in most
  generalize bear most = m at *
  obtain ⟨c1, hc1⟩ : ∃ c1, c + 1 = c1 := ⟨_, rfl⟩
  have u1 : IntKind.i64.wrap (c + 1) = c1 := by rw [IntKind.wrap_i64]; omega
  have u2 : wrap64 (c + 1) = c1 := by unfold wrap64; omega
  unfold lett cau
  rw [hc1]
  clear hb hc hc1
  by_cases h6 : n = 6
  · subst h6
    simp only [if_true]
    go_enter Try.func9, Try.ntmps9
    go_wp2_with fail
    refine (KM.out _).mono ?_
    rintro v w1 ⟨rfl, hw⟩
    obtain rfl := hw
    go_wp2
    go_ret2
    exact ⟨rfl, rfl⟩
  have q6 : (n == 6) = false := by rw [beq_eq_false_iff_ne]; exact h6
  rw [if_neg h6, if_neg h6]
  by_cases hn : n < 0 ∨ 7 < n
  · rw [if_pos hn, if_pos hn]
    rcases hn with hn | hn
    · clear h6
      go_enter Try.func9, Try.ntmps9
      go_wp2_with fail
      refine (KM.out _).mono ?_
      rintro v w1 ⟨rfl, hw⟩
      obtain rfl := hw
      go_wp2
      go_ret2
      exact ⟨rfl, rfl⟩
    · have hn0 : ¬ n < 0 := by omega
      clear h6
      go_enter Try.func9, Try.ntmps9
      go_wp2_with fail
      refine (KM.out _).mono ?_
      rintro v w1 ⟨rfl, hw⟩
      obtain rfl := hw
      go_wp2
      go_ret2
      exact ⟨rfl, rfl⟩
  have n1 : ¬ n < 0 := by omega
  have n2 : ¬ 7 < n := by omega
  rw [if_neg hn, if_neg hn]
  by_cases hb : m < c ∨ n = 5
  · rw [if_pos hb, if_pos hb]
    by_cases hm : m < c
    · clear h6 hb hn
      go_enter Try.func9, Try.ntmps9
      go_wp2_with fail
      refine (KM.out _).mono ?_
      rintro v w1 ⟨rfl, hw⟩
      obtain rfl := hw
      go_wp2
      go_ret2
      exact ⟨rfl, rfl⟩
    · obtain rfl : n = 5 := by omega
      clear h6 hb hn
      go_enter Try.func9, Try.ntmps9
      go_wp2_with fail
      refine (KM.out _).mono ?_
      rintro v w1 ⟨rfl, hw⟩
      obtain rfl := hw
      go_wp2
      go_ret2
      exact ⟨rfl, rfl⟩
  have hm : ¬ m < c := by omega
  have h5 : n ≠ 5 := by omega
  have q5 : (n == 5) = false := by rw [beq_eq_false_iff_ne]; exact h5
  rw [if_neg hb, if_neg hb]
  by_cases h0 : n = 0
  · subst h0
    simp only [true_or, if_true]
    clear h6 hb hn h5 q5 q6
    go_enter Try.func9, Try.ntmps9
    go_wp2_with fail
    refine (KM.out _).mono ?_
    rintro v w1 ⟨rfl, hw⟩
    obtain rfl := hw
    go_wp2
    go_ret2
    exact ⟨rfl, rfl⟩
  have q0 : (n == 0) = false := by rw [beq_eq_false_iff_ne]; exact h0
  rw [if_neg h0]
  by_cases h7 : n = 7
  · subst h7
    simp only [or_true, if_true]
    clear h6 hb hn h5 q5 q6 h0 q0
    go_enter Try.func9, Try.ntmps9
    go_wp2_with fail
    refine (KM.out _).mono ?_
    rintro v w1 ⟨rfl, hw⟩
    obtain rfl := hw
    go_wp2
    go_ret2
    exact ⟨rfl, rfl⟩
  have q7 : (n == 7) = false := by rw [beq_eq_false_iff_ne]; exact h7
  rw [if_neg (by omega)]
  clear h6 hb hn h5 h0 h7
  go_enter Try.func9, Try.ntmps9
  go_wp2_with fail
  refine (KM.out _).mono ?_
  rintro v w1 ⟨rfl, hw⟩
  obtain rfl := hw
  go_wp2
  go_ret2
  exact ⟨rfl, rfl⟩
set_option maxHeartbeats 16000000 in
set_option maxRecDepth 100000 in
theorem walkS (Q : PlayS) (KF : ∀ w : World, Calls Try.prog 7 #[] w fun r w' => r = .returned (.bool true) ∧ Below w.heap.size w w') (most : Int) (A : Option Addr) (xs : List Int) (n cp : Nat) (w : World) (h : CL w .i64 A xs) (hl : xs.length = n) (hz : n * 8 ≤ 140737488351232) : Calls Try.prog 3 #[.int .i64 most, .slice A n cp] w fun r w' => r = .returned (.bool true) ∧ Below w.heap.size w w' := by
  have HK := Lib.hid KF
  have HP := Lib.hid (fun W hs => Q.play most A xs n cp W hs hl hz)
  have HA := Lib.hid h
  have HL := Lib.hid hl
  have HZ := Lib.hid hz
  have KM := Lib.hid (fun Z => most_any most Z)
  have KS := Lib.hid (fun c x Z hc => step_any most c x Z hc)
  have HM := Lib.hid (bear_in most)
  have SA := Lib.hid (script_at (bear most) 0 xs)
  have AI := Lib.hid (fun i => ahead_in (m := bear most) HM.out.1 0 xs i ⟨Int.le_refl _, by have := HM.out.1; omega⟩)
  have LL := Lib.hid (letts_len (bear most) 0 xs)
  have CC := Lib.hid (caus_len (bear most) 0 xs)
  clear Q KF h hl hz
  generalize bear most = m at *
  go_enter Try.func3, Try.ntmps3
  go_wp2_with fail
  refine (HK.out _).mono ?_
  rintro v w1 ⟨rfl, b1⟩
  have B1 := Lib.hid b1
  clear b1
  go_wp2_with fail
  refine (HP.out _ (HA.out.below B1.out)).mono ?_
  rintro v w2 ⟨s, vl, rfl, hs, ho, b2⟩
  obtain ⟨D, d, rfl, -, -, -, -⟩ := ho.form
  rw [CC.out, HL.out] at ho ⊢
  have HO := Lib.hid ho
  have HS := Lib.hid hs
  have SL := Lib.hid (show s.size = n by rw [← bs_len, hs, LL.out, HL.out])
  have B2 := Lib.hid (B1.out.trans (b2.mono B1.out.size))
  have q1 : ((s.size : Nat) : Int) = ((n : Nat) : Int) := by rw [SL.out]
  clear ho hs b2 B1
  go_wp2
  clear q1
  go_loopw [7, 33] (fun cv iv wr => ∃ (k : Nat), k ≤ n ∧ iv = .int .i64 k ∧ cv = .int .i64 (ahead m 0 xs k) ∧ Hid (Below w2.heap.size w2 wr)) (fun _ iv _ => n - (intOf iv).toNat)
  case atStart => exact ⟨0, Nat.zero_le _, rfl, by cases xs <;> rfl, Lib.hid (Below.refl _ _)⟩
  case round =>
    obtain ⟨k, hk, rfl, rfl, HB⟩ := hrel
    by_cases hlt : (k : Int) < (n : Int)
    case neg =>
      have HF := Lib.hid (B2.out.trans (HB.out.mono B2.out.size))
      go_wp2
      go_ret
      exact ⟨rfl, HF.out⟩
    obtain ⟨x, hx⟩ : ∃ x, xs[k]? = some x := ⟨_, List.getElem?_eq_getElem (by rw [HL.out]; omega)⟩
    obtain ⟨a, rfl, hc, -⟩ := (HA.out.below (B2.out.trans (HB.out.mono B2.out.size))) k x hx
    obtain ⟨s1, s2, s3⟩ := SA.out k x hx
    have ai := AI.out k
    have ai2 := AI.out (k + 1)
    have HST := Lib.hid (fun Z => KS.out (ahead m 0 xs k) x Z ai)
    rw [← s3] at HST
    obtain ⟨A9, c9, hv9, cl9, -⟩ := (HO.out.below HB.out).form
    rw [CC.out, HL.out] at hv9
    cases hv9
    obtain ⟨a9, rfl, hc9, -⟩ := cl9 k _ s2
    have HI := fun W => index_bs (P := Try.prog) (q := .i64) Try.underlying9 (by rw [HS.out]; exact s1) W
    have HLT := Lib.hid hlt
    obtain ⟨kk, hkk⟩ : ∃ kk, k + 1 = kk := ⟨_, rfl⟩
    have HKK := Lib.hid hkk
    have u1 : IntKind.i64.wrap ((k : Int) + 1) = (kk : Int) := by have := HZ.out; rw [IntKind.wrap_i64]; omega
    have u2 : wrap64 ((k : Int) + 1) = (kk : Int) := by have := HZ.out; unfold wrap64; omega
    obtain ⟨m1, hm1⟩ : ∃ m1, m + 1 = m1 := ⟨_, rfl⟩
    obtain ⟨u3, u4⟩ := wr_of (x := m + 1) (z := m1) hm1 (by have := HM.out; omega)
    have u5 : ¬ m1 < ahead m 0 xs (k + 1) := by omega
    have AE := Lib.hid (show ahead m 0 xs (k + 1) = ahead m 0 xs kk by rw [hkk])
    generalize lett m (ahead m 0 xs k) x = le at *
    generalize ahead m 0 xs (k + 1) = c2 at *
    generalize ahead m 0 xs k = c1 at *
    clear hx s1 s2 s3 ai ai2 cl9 hkk hm1 HA
    go_wp2_with fail
    refine (HST.out _).mono ?_
    rintro v w3 ⟨rfl, hw⟩
    obtain rfl := hw
    go_wp2_with fail
    refine (KM.out _).mono ?_
    rintro v w4 ⟨rfl, hw⟩
    obtain rfl := hw
    go_wp2
    go_roundw
    case rel => exact ⟨kk, by have := HKK.out; have := HLT.out; omega, by go_num, by rw [← AE.out], HB⟩
    case measure => have h1 := HKK.out; have h2 := HLT.out; simp [intOf]; omega
end Go.Proofs.Ytjglgglolbkjlaa.FuseW.FusePlays
