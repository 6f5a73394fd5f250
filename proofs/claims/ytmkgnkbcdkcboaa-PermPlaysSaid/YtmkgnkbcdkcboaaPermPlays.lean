/- The law PermPlays: every answer of every script of a hold, by a clock whose rate changes, is as the document says: for all delays, clocks and scripts. No condition. -/
import Derived.Test.YtmkgnkbcdkcboaaPermR
namespace Go.Proofs.Ytmkgnkbcdkcboaa.PermW.PermPlays
open Go.ChangeShapes Go.WideShapes Go.ChangeAt Go.RowKit PermW Shell
open QueueW (It lt ins cbx)
open ClockW (CK CI RV tell tell_iff sh wh okN okN_iff)
open FrameW (CV rightC)
abbrev arr3 (x y z : Int) : Obj := .cells #[.int .i64 x, .int .i64 y, .int .i64 z] 22 (0, 0)
theorem okD_false {d : Int} (h : okD d = false) : d < 0 ∨ ¬ d < 0 ∧ 1048576 < d := by
  by_cases h1 : 0 ≤ d ∧ d ≤ 1048576
  · rw [okD_iff.2 h1] at h; cases h
  · omega
theorem u32_0 {n : Int} (h : (Lit.int .u32 n).wf = true) : 0 ≤ n := by
  simp [Lit.wf] at h
  exact h.1
set_option maxHeartbeats 16000000 in
set_option maxRecDepth 100000 in
theorem walk (d m0 b0 r0 : Int) (A : Option Addr) (ops : List (List Int)) (c : Nat) (w : World) (hA : RL w ks8 A ops) (hl : ops.length ≤ 2199023255551) :
    Calls Try.prog 3 #[.int .i64 d, .agg #[.int .i64 m0, .int .i64 b0, .int .i64 r0], .slice A ops.length c] w fun e w' => e = .returned (.bool true) ∧ Below w.heap.size w w' := by
  have HA := Lib.hid hA
  obtain ⟨n, hn⟩ : ∃ n, ops.length = n := ⟨_, rfl⟩
  rw [hn] at hl ⊢
  have Hn := Lib.hid hn
  have Hl := Lib.hid hl
  clear hn hl hA
  have S0 := (Stay.start w).alloc (arr3 m0 b0 r0)
  go_enter Try.func3, Try.ntmps3
  go_wp2_with fail
  generalize w.alloc (Obj.cells #[.int .i64 m0, .int .i64 b0, .int .i64 r0] 22) = W0 at *
  refine (fixed_any _).mono ?_
  rintro e w1 ⟨rfl, b1⟩
  have S1 := Lib.hid (S0.next b1)
  clear S0 b1
  cases hd : okD d with
  | false =>
    go_wp2_with fail
    refine (new_bad d hd _).mono ?_
    rintro e w' ⟨rfl, rfl⟩
    rcases okD_false hd with h1 | ⟨h1, h2⟩
    · go_wp2
      go_ret
      exact ⟨rfl, S1.out.b⟩
    · go_wp2
      go_ret
      exact ⟨rfl, S1.out.b⟩
  | true =>
    have d0 : ¬ d < 0 := by have := okD_iff.1 hd; omega
    have d1 : ¬ 1048576 < d := by have := okD_iff.1 hd; omega
    go_wp2_with fail
    refine (new_ok d hd _).mono ?_
    rintro e w2 ⟨g, rfl, hg, hk, b2⟩
    have S2 := Lib.hid (S1.out.next b2)
    have K2 := Lib.hid hk
    have Q0 := Lib.hid (lt_of_heap (S1.out.at 0 rfl))
    have G0 := Lib.hid hg
    generalize w1.heap.size = q at *
    clear S1 hg hk b2 hd
    obtain ⟨a0, a1, a2⟩ := cells3 (S2.out.at 0 rfl)
    cases ho : okN m0 b0 r0 with
    | false =>
      go_wp2_with fail
      refine (ClockW.new_bad m0 b0 r0 ho _).mono ?_
      rintro e w' ⟨rfl, rfl⟩
      go_wp2
      go_ret
      exact ⟨rfl, S2.out.b⟩
    | true =>
      have HCI := Lib.hid (okN_iff.1 ho).1
      go_wp2_with fail
      refine (ClockW.new_ok m0 b0 r0 ho _).mono ?_
      rintro e w3 ⟨rfl, c3, b3⟩
      have LQ := K2.out.q.lt.1
      have LG := QueueW.lt_heap K2.out.box
      have P3 := PW.mk0 (w0 := w) (S2.out.next b3) (K2.out.below b3) c3 HCI.out (Nat.le_of_lt Q0.out) S2.out.b.size (by omega) (by omega) (fun x hx => by
        rcases List.mem_singleton.1 hx with rfl
        have := Q0.out; have h5 := lt_of_heap (S2.out.at 0 rfl)
        exact ⟨by show w.heap.size ≠ q; omega, by show w.heap.size ≠ w2.heap.size; omega⟩)
      have GK := Lib.hid (show g < w3.heap.size by have := b3.size; omega)
      have K0 := Lib.hid P3.st.b.size
      have P4 := Lib.hid ((P3.alloc (rk m0 b0 r0)).sub (M := [(w3.heap.size, rk m0 b0 r0)]) (by simp))
      clear a0 a1 a2
      obtain ⟨a0, a1, a2⟩ := cells3 (P3.st.at 0 rfl)
      generalize w2.heap.size = j at *
      clear c3 b3 LQ LG P3 S2 K2 Q0 G0 HCI ho d0 d1
      go_upto_region 12 with (fail)
      generalize w3.alloc (Obj.cells #[.int .i64 m0, .int .i64 b0, .int .i64 r0] 33) = W3 at *
      generalize w3.heap.size = k at *
      clear a0 a1 a2
      have P4 := Lib.hid (PL.mk P4.out (fun x hx => by cases hx) GK.out K0.out (Nat.zero_le 0))
      have GK2 := GK
      have K02 := K0
      clear GK K0
      go_wp2
      go_loopw [12, 73] (fun lv iv wr => ∃ (i : Nat) (m b r : Int) (S : List It) (N : Nat) (A : Option Addr) (cp : Nat), iv = .int .i64 i ∧ lv = .slice A S.length cp ∧ Hid (i ≤ n) ∧ Hid (N ≤ i) ∧ Hid (PL w g q j k d m b r S N A cp wr)) (fun _ iv _ => (n - intOf iv).toNat)
      case atStart => exact ⟨0, m0, b0, r0, [], 0, none, 0, rfl, rfl, Lib.hid (Nat.zero_le _), Lib.hid (Nat.le_refl _), P4⟩
      case round =>
        clear P4
        obtain ⟨i, m, b, r, S, N, A2, cp, rfl, rfl, HI, HN, HP⟩ := hrel
        have P := Lib.hid HP.out.p
        have HX := Lib.hid HP.out.a
        have HC := Lib.hid HP.out.c
        clear HP
        have NN := Lib.hid (show N < 4611686018427387904 by have := HN.out; have := HI.out; have := Hl.out; omega)
        have nb : (n : Int) ≤ 2199023255551 := by have := Hl.out; omega
        by_cases hlt : (i : Int) < (n : Int)
        · obtain ⟨xs, hx⟩ : ∃ xs, ops[i]? = some xs := ⟨_, List.getElem?_eq_getElem (by have := Hn.out; omega)⟩
          obtain ⟨ba, oa, kd, t, z, fk, ff, fy, fc, fl, rfl, rfl, e0, e1, e2, e3, e4, e5, e6, e7, wf⟩ := (HA.out.below P.out.st.b).row8 hx
          have FC := Lib.hid (u32_0 wf)
          clear hx wf
          have P5 := Lib.hid (P.out.alloc (opx kd t z fk ff fy fc fl))
          go_upto_region 16 with (fail)
          generalize wr.alloc (Obj.cells #[.int .i64 kd, .int .i64 t, .int .i64 z, .int .i64 fk, .int .i64 ff, .int .i64 fy, .int .u32 fc, .int .i64 fl] 39) = w5 at *
          generalize wr.heap.size = p at *
          clear e0 e1 e2 e3 e4 e5 e6 e7 P
          obtain ⟨e0, e1, e2, e3, e4, e5, e6, e7⟩ := cells8 (P5.out.st.at 0 rfl)
          have hkp : k ≠ p := by
            have := P5.out.st.at 1 rfl
            intro e
            subst e
            have := this.symm.trans (P5.out.st.at 0 rfl)
            simp at this
          have HKP := Lib.hid hkp
          clear hkp
          by_cases k1 : kd = 1
          · subst k1
            as_aux_lemma =>
              obtain ⟨x, hx⟩ : ∃ x, tkA m b r d S.length t fk ff fy fc fl = x := ⟨_, rfl⟩
              obtain ⟨x0, x1⟩ := x
              have T1 := P5.out.take t fk ff fy fc fl FC.out NN.out
              rw [hx] at T1
              have T1 := Lib.hid T1
              go_wp2_with fail
              refine T1.out.mono ?_
              rintro e w6 ⟨rfl, pl, hpl, P6⟩
              have P6 := Lib.hid P6
              have R1 := refTake_any m b r t d fk ff fy fc fl S A2 cp FC.out P6.out.ci w6 P6.out.li P5.out.few P5.out.std pl hpl (fun a ha => (P6.out.lb a ha).2.2) HC.out
              rw [hx] at R1
              unfold RV at R1
              have R1 := Lib.hid R1
              have KL := Lib.hid (lt_of_heap (P6.out.st.at 1 rfl))
              clear T1 hpl hx e0 e1 e2 e3 e4 e5 e6 e7
              obtain ⟨e0, e1, e2, e3, e4, e5, e6, e7⟩ := cells8 (P6.out.st.at 0 rfl)
              obtain ⟨c0, c1, c2⟩ := cells3 (P6.out.st.at 1 rfl)
              go_wp2_with fail
              refine R1.out.mono ?_
              rintro e w7 ⟨A7, cp7, rfl, hl7, ha7, hc7, b7⟩
              have P7 := Lib.hid (P6.out.list b7 hl7 ha7)
              have HX7 := Lib.hid (show ∀ x, A7 = some x → k < x.block from fun x h => by
                rcases (ha7 x h).1 with h1 | h1
                · exact HX.out x h1
                · have := KL.out; omega)
              have HC7 := Lib.hid hc7
              clear R1 P6 hl7 ha7 hc7 b7 KL HC HX P5 e0 e1 e2 e3 e4 e5 e6 e7 c0 c1 c2
              generalize tkS pl m b r d t fk ff fy fc fl S = S7 at *
              rcases S7 with _ | ⟨⟨y0, y1, y2, y3, y4, y5, y6, y7, y8⟩, S7⟩
              · have NX := P7.out.nxt
                dsimp only [PermW.nxt] at NX
                have NX := Lib.hid NX
                go_wp2_with fail
                refine NX.out.mono ?_
                rintro e w8 ⟨rfl, P8⟩
                have P8 := Lib.hid P8
                have LN := P8.out.len
                simp only [List.length_nil] at LN
                have LN := Lib.hid LN
                clear NX P7
                go_wp2_with (go_at_call 19; (with_reducible refine LN.out.mono ?_); rintro e w' ⟨rfl, hw⟩; obtain rfl := hw.symm)
                go_roundw
                case rel => exact ⟨i + 1, m, b, r, [], N + 1, _, cp7, by simp, rfl, Lib.hid (by omega), Lib.hid (by have := HN.out; omega), Lib.hid ⟨P8.out.sub (by simp), HX7.out, GK2.out, K02.out, HC7.out⟩⟩
                case measure => simp only [intOf]; omega
              · have NX := P7.out.nxt
                dsimp only [PermW.nxt] at NX
                have NX := Lib.hid NX
                go_wp2_with fail
                refine NX.out.mono ?_
                rintro e w8 ⟨rfl, P8⟩
                have P8 := Lib.hid P8
                obtain ⟨g8, o8, rfl, -, ⟨-, -, -, -, -, l5⟩, -⟩ := P8.out.li.tail
                skip
                have LN := P8.out.len
                obtain ⟨sl, hsl⟩ : ∃ sl, S7.length + 1 = sl := ⟨_, rfl⟩
                have sl0 : (0 : Int) < (sl : Int) := by omega
                simp only [List.length_cons] at LN
                (try rw [List.length_cons])
                rw [hsl] at LN ⊢
                have HSL := Lib.hid hsl
                have LN := Lib.hid LN
                clear NX P7 hsl
                dsimp only at l5
                go_wp2_with (go_at_call 19; (with_reducible refine LN.out.mono ?_); rintro e w' ⟨rfl, hw⟩; obtain rfl := hw.symm)
                rw [← HSL.out]
                go_roundw
                case rel => exact ⟨i + 1, m, b, r, ⟨y0, y1, y2, y3, y4, y5, y6, y7, y8⟩ :: S7, N + 1, _, cp7, by simp, rfl, Lib.hid (by omega), Lib.hid (by have := HN.out; omega), Lib.hid ⟨P8.out.sub (by simp), HX7.out, GK2.out, K02.out, HC7.out⟩⟩
                case measure => simp only [intOf]; omega
          · have n1 : (kd == 1) = false := by rw [beq_eq_false_iff_ne]; exact k1
            by_cases k3 : kd = 3
            · subst k3
              clear n1 k1
              rcases S with _ | ⟨⟨y0, y1, y2, y3, y4, y5, y6, y7, y8⟩, S⟩
              · simp only [List.length_nil]
                as_aux_lemma =>
                  have G1 := P5.out.give_none t
                  unfold FrameW.CV at G1
                  have G1 := Lib.hid G1
                  go_wp2_with fail
                  refine G1.out.mono ?_
                  rintro e w6 ⟨rfl, P6⟩
                  have P7 := Lib.hid (P6.alloc (cbx 0 0 0 0 0))
                  obtain ⟨z0, z1, z2, z3, z4⟩ := QueueW.cells5 (P7.out.st.at 0 rfl)
                  clear G1 P6 e0 e1 e2 e3 e4 e5 e6 e7
                  obtain ⟨e0, e1, e2, e3, e4, e5, e6, e7⟩ := cells8 (P7.out.st.at 1 rfl)
                  have q1 := FrameW.neq_ctl 0 0 0 0 0
                  have q2 := PermW.guardC
                  go_wp2_with fail
                  go_region
                  go_wp2
                  go_roundw
                  case rel => exact ⟨i + 1, m, b, r, [], N, _, cp, by simp, rfl, Lib.hid (by omega), Lib.hid (by have := HN.out; omega), Lib.hid ⟨(P7.out.sub (by simp)).drew, HX.out, GK2.out, K02.out, HC.out⟩⟩
                  case measure => simp only [intOf]; omega
              · by_cases hxt : t < y0
                · as_aux_lemma =>
                    have G1 := P5.out.give_later t hxt
                    unfold FrameW.CV at G1
                    have G1 := Lib.hid G1
                    go_wp2_with fail
                    refine G1.out.mono ?_
                    rintro e w6 ⟨rfl, P6⟩
                    have P7 := Lib.hid (P6.alloc (cbx 0 0 0 0 0))
                    obtain ⟨z0, z1, z2, z3, z4⟩ := QueueW.cells5 (P7.out.st.at 0 rfl)
                    clear G1 P6 e0 e1 e2 e3 e4 e5 e6 e7
                    obtain ⟨e0, e1, e2, e3, e4, e5, e6, e7⟩ := cells8 (P7.out.st.at 1 rfl)
                    obtain ⟨g8, o8, rfl, -, ⟨l0, l1, l2, l3, l4, l5⟩, -⟩ := P7.out.li.tail
                    dsimp only at l5 hxt
                    have q1 := FrameW.neq_ctl 0 0 0 0 0
                    have q2 := PermW.guardC
                    obtain ⟨sl, hsl⟩ : ∃ sl, S.length + 1 = sl := ⟨_, rfl⟩
                    have sl0 : (0 : Int) < (sl : Int) := by omega
                    (try rw [List.length_cons])
                    have sl1 : ((sl : Int) == 0) = false := by rw [beq_eq_false_iff_ne]; omega
                    rw [hsl]
                    have HSL := Lib.hid hsl
                    clear hsl l0 l1 l2 l3 l4
                    go_wp2_with fail
                    go_region
                    go_wp2
                    rw [← HSL.out]
                    go_roundw
                    case rel => exact ⟨i + 1, m, b, r, ⟨y0, y1, y2, y3, y4, y5, y6, y7, y8⟩ :: S, N, _, cp, by simp, rfl, Lib.hid (by omega), Lib.hid (by have := HN.out; omega), Lib.hid ⟨(P7.out.sub (by simp)).drew, HX.out, GK2.out, K02.out, HC.out⟩⟩
                    case measure => simp only [intOf]; omega
                · have hxt : y0 ≤ t := by omega
                  as_aux_lemma =>
                    have G1 := P5.out.give t hxt
                    dsimp only [It.thing] at G1
                    have G1 := Lib.hid G1
                    go_wp2_with fail
                    refine G1.out.mono ?_
                    rintro e w6 ⟨rfl, P6⟩
                    have P7 := Lib.hid (P6.alloc (cbx y4 y5 y6 y7 y8))
                    obtain ⟨z0, z1, z2, z3, z4⟩ := QueueW.cells5 (P7.out.st.at 0 rfl)
                    clear G1 P6 e0 e1 e2 e3 e4 e5 e6 e7
                    obtain ⟨e0, e1, e2, e3, e4, e5, e6, e7⟩ := cells8 (P7.out.st.at 1 rfl)
                    obtain ⟨g8, o8, rfl, -, ⟨l0, l1, l2, l3, l4, l5⟩, hr8⟩ := P7.out.li.tail
                    have HR8 := Lib.hid hr8
                    dsimp only at l0 l1 l2 l3 l4 l5 hxt
                    have q1 := FrameW.neq_ctl y4 y5 y6 y7 y8
                    have q2 := PermW.guardC
                    have nxt_ : ¬ t < y0 := by omega
                    clear hr8 hxt
                    obtain ⟨sl, hsl⟩ : ∃ sl, S.length = sl := ⟨_, rfl⟩
                    have HSL := Lib.hid hsl
                    have HC2 := HC.out
                    simp only [List.length_cons] at HC2 ⊢
                    rw [hsl] at HC2 ⊢
                    clear hsl HC
                    have s1 : ((sl : Int) + 1 == 0) = false := by rw [beq_eq_false_iff_ne]; omega
                    by_cases hcp : cp = 1
                    · subst hcp
                      obtain rfl : sl = 0 := by omega
                      obtain rfl : S = [] := List.eq_nil_of_length_eq_zero HSL.out
                      clear HC2 HSL
                      have P8 := Lib.hid ((P7.out.rest (a1 := ⟨g8, o8, none⟩) rfl rfl (T1 := []) (Or.inl rfl)).drew.drew)
                      clear P7 HR8
                      go_wp2_with fail
                      go_region
                      go_wp2_with fail
                      go_region
                      go_upto_region 37 with (fail)
                      have HXA := Lib.hid (show ∀ x, some (⟨g8, o8, none⟩ : Addr) = some x → k < x.block from HX.out)
                      have NX := P8.out.nxt
                      dsimp only [PermW.nxt] at NX
                      have NX := Lib.hid NX
                      go_wp2_with fail
                      refine NX.out.mono ?_
                      rintro e w8 ⟨rfl, P9⟩
                      have P9 := Lib.hid P9
                      have LN := P9.out.len
                      simp only [List.length_nil] at LN
                      have LN := Lib.hid LN
                      clear NX P8
                      go_wp2_with (go_at_call 19; (with_reducible refine LN.out.mono ?_); rintro e w' ⟨rfl, hw⟩; obtain rfl := hw.symm)
                      go_roundw
                      case rel => exact ⟨i + 1, m, b, r, [], N, _, 0, by simp, rfl, Lib.hid (by omega), Lib.hid (by have := HN.out; omega), Lib.hid ⟨P9.out.sub (by simp), HXA.out, GK2.out, K02.out, (Lib.hid (Nat.le_refl 0)).out⟩⟩
                      case measure => simp only [intOf]; omega
                    · have HCP := Lib.hid HC2
                      have P8 := Lib.hid ((P7.out.rest (a1 := ⟨g8, o8 + 6, none⟩) rfl rfl HR8.out).drew.drew)
                      clear P7 HR8
                      go_wp2_with fail
                      go_region
                      go_wp2_with fail
                      go_region
                      go_upto_region 37 with (fail)
                      have HXA := Lib.hid (show ∀ x, some (⟨g8, o8 + 6, none⟩ : Addr) = some x → k < x.block from fun x h => by cases h; exact HX.out ⟨g8, o8, none⟩ rfl)
                      have HCA := Lib.hid (show S.length ≤ cp - 1 by have := HCP.out; have := HSL.out; omega)
                      rw [← HSL.out]
                      clear HSL HC2 s1 HCP l0 l1 l2 l3 l4 l5
                      rcases S with _ | ⟨⟨y0, y1, y2, y3, y4, y5, y6, y7, y8⟩, S⟩
                      · have NX := P8.out.nxt
                        dsimp only [PermW.nxt] at NX
                        have NX := Lib.hid NX
                        go_wp2_with fail
                        refine NX.out.mono ?_
                        rintro e w8 ⟨rfl, P9⟩
                        have P9 := Lib.hid P9
                        have LN := P9.out.len
                        simp only [List.length_nil] at LN
                        have LN := Lib.hid LN
                        clear NX P8
                        go_wp2_with (go_at_call 19; (with_reducible refine LN.out.mono ?_); rintro e w' ⟨rfl, hw⟩; obtain rfl := hw.symm)
                        go_roundw
                        case rel => exact ⟨i + 1, m, b, r, [], N, _, (cp - 1), by simp, rfl, Lib.hid (by omega), Lib.hid (by have := HN.out; omega), Lib.hid ⟨P9.out.sub (by simp), HXA.out, GK2.out, K02.out, HCA.out⟩⟩
                        case measure => simp only [intOf]; omega
                      · have NX := P8.out.nxt
                        dsimp only [PermW.nxt] at NX
                        have NX := Lib.hid NX
                        go_wp2_with fail
                        refine NX.out.mono ?_
                        rintro e w8 ⟨rfl, P9⟩
                        have P9 := Lib.hid P9
                        obtain ⟨g9, o9, hA9, -, ⟨-, -, -, -, -, l5⟩, -⟩ := P9.out.li.tail
                        injection hA9 with hA9; injection hA9 with e1 e2 _; subst e1; subst e2
                        have LN := P9.out.len
                        obtain ⟨sl, hsl⟩ : ∃ sl, S.length + 1 = sl := ⟨_, rfl⟩
                        have sl0 : (0 : Int) < (sl : Int) := by omega
                        simp only [List.length_cons] at LN
                        (try rw [List.length_cons])
                        rw [hsl] at LN ⊢
                        have HSL := Lib.hid hsl
                        have LN := Lib.hid LN
                        clear NX P8 hsl
                        dsimp only at l5
                        go_wp2_with (go_at_call 19; (with_reducible refine LN.out.mono ?_); rintro e w' ⟨rfl, hw⟩; obtain rfl := hw.symm)
                        rw [← HSL.out]
                        go_roundw
                        case rel => exact ⟨i + 1, m, b, r, ⟨y0, y1, y2, y3, y4, y5, y6, y7, y8⟩ :: S, N, _, (cp - 1), by simp, rfl, Lib.hid (by omega), Lib.hid (by have := HN.out; omega), Lib.hid ⟨P9.out.sub (by simp), HXA.out, GK2.out, K02.out, HCA.out⟩⟩
                        case measure => simp only [intOf]; omega
            · have n3 : (kd == 3) = false := by rw [beq_eq_false_iff_ne]; exact k3
              by_cases k4 : kd = 4
              · subst k4
                clear n1 n3 k1 k3
                as_aux_lemma =>
                  obtain ⟨y, hy⟩ : ∃ y, rt m b r t z = y := ⟨_, rfl⟩
                  obtain ⟨m9, b9, r9⟩ := y
                  have T1 := P5.out.rate t z
                  rw [hy] at T1
                  have T1 := Lib.hid T1
                  have R1 := fun W => refRate_any m b r t z W P5.out.ci
                  rw [hy] at R1
                  unfold RV at R1
                  have R1 := Lib.hid R1
                  clear hy
                  go_wp2_with fail
                  refine T1.out.mono ?_
                  rintro e w6 ⟨⟨u, rfl⟩, P6⟩
                  have P6 := Lib.hid P6
                  clear T1 P5 e0 e1 e2 e3 e4 e5 e6 e7
                  obtain ⟨e0, e1, e2, e3, e4, e5, e6, e7⟩ := cells8 (P6.out.st.at 0 rfl)
                  obtain ⟨c0, c1, c2⟩ := cells3 (P6.out.st.at 1 rfl)
                  go_wp2_with fail
                  refine (R1.out _).mono ?_
                  rintro e w7 ⟨⟨u2, rfl⟩, b7⟩
                  have P7 := Lib.hid (P6.out.next b7)
                  clear R1 P6 b7 e0 e1 e2 e3 e4 e5 e6 e7 c0 c1 c2
                  obtain ⟨c0, c1, c2⟩ := cells3 (P7.out.st.at 1 rfl)
                  obtain ⟨f0, f1, f2⟩ := frozen3 (P7.out.st.at 1 rfl)
                  have P8 := Lib.hid ((P7.out.sub (M := [(k, rk m b r)]) (by simp)).box (kept3 w7 k (.int .i64 m9) (.int .i64 b9) (.int .i64 r9)) (put3 (P7.out.st.at 1 rfl) (.int .i64 m9) (.int .i64 b9) (.int .i64 r9)) K02.out (by simp) (by have := GK2.out; omega) (fun a ha => by have := HX.out a ha; omega))
                  clear P7
                  go_upto_region 37 with (fail)
                  generalize ((w7.setCell ⟨k, 0, none⟩ (.int .i64 m9)).setCell ⟨k, 1, none⟩ (.int .i64 b9)).setCell ⟨k, 2, none⟩ (.int .i64 r9) = w9 at *
                  clear c0 c1 c2 f0 f1 f2
                  rcases S with _ | ⟨⟨y0, y1, y2, y3, y4, y5, y6, y7, y8⟩, S⟩
                  · have NX := P8.out.nxt
                    dsimp only [PermW.nxt] at NX
                    have NX := Lib.hid NX
                    go_wp2_with fail
                    refine NX.out.mono ?_
                    rintro e w8 ⟨rfl, P9⟩
                    have P9 := Lib.hid P9
                    have LN := P9.out.len
                    simp only [List.length_nil] at LN
                    have LN := Lib.hid LN
                    clear NX P8
                    go_wp2_with (go_at_call 19; (with_reducible refine LN.out.mono ?_); rintro e w' ⟨rfl, hw⟩; obtain rfl := hw.symm)
                    go_roundw
                    case rel => exact ⟨i + 1, m9, b9, r9, [], N, _, cp, by simp, rfl, Lib.hid (by omega), Lib.hid (by have := HN.out; omega), Lib.hid ⟨P9.out.sub (by simp), HX.out, GK2.out, K02.out, HC.out⟩⟩
                    case measure => simp only [intOf]; omega
                  · have NX := P8.out.nxt
                    dsimp only [PermW.nxt] at NX
                    have NX := Lib.hid NX
                    go_wp2_with fail
                    refine NX.out.mono ?_
                    rintro e w8 ⟨rfl, P9⟩
                    have P9 := Lib.hid P9
                    obtain ⟨g8, o8, rfl, -, ⟨-, -, -, -, -, l5⟩, -⟩ := P9.out.li.tail
                    skip
                    have LN := P9.out.len
                    obtain ⟨sl, hsl⟩ : ∃ sl, S.length + 1 = sl := ⟨_, rfl⟩
                    have sl0 : (0 : Int) < (sl : Int) := by omega
                    simp only [List.length_cons] at LN
                    (try rw [List.length_cons])
                    rw [hsl] at LN ⊢
                    have HSL := Lib.hid hsl
                    have LN := Lib.hid LN
                    clear NX P8 hsl
                    dsimp only at l5
                    go_wp2_with (go_at_call 19; (with_reducible refine LN.out.mono ?_); rintro e w' ⟨rfl, hw⟩; obtain rfl := hw.symm)
                    rw [← HSL.out]
                    go_roundw
                    case rel => exact ⟨i + 1, m9, b9, r9, ⟨y0, y1, y2, y3, y4, y5, y6, y7, y8⟩ :: S, N, _, cp, by simp, rfl, Lib.hid (by omega), Lib.hid (by have := HN.out; omega), Lib.hid ⟨P9.out.sub (by simp), HX.out, GK2.out, K02.out, HC.out⟩⟩
                    case measure => simp only [intOf]; omega
              · have n4 : (kd == 4) = false := by rw [beq_eq_false_iff_ne]; exact k4
                by_cases k5 : kd = 5
                · subst k5
                  clear n1 n3 n4 k1 k3 k4
                  as_aux_lemma =>
                    obtain ⟨y, hy⟩ : ∃ y, se m b r t z = y := ⟨_, rfl⟩
                    obtain ⟨m9, b9, r9⟩ := y
                    have T1 := P5.out.set t z
                    rw [hy] at T1
                    have T1 := Lib.hid T1
                    have R1 := fun W => refSet_any m b r t z W
                    rw [hy] at R1
                    unfold RV at R1
                    have R1 := Lib.hid R1
                    clear hy
                    go_wp2_with fail
                    refine T1.out.mono ?_
                    rintro e w6 ⟨⟨u, rfl⟩, P6⟩
                    have P6 := Lib.hid P6
                    clear T1 P5 e0 e1 e2 e3 e4 e5 e6 e7
                    obtain ⟨e0, e1, e2, e3, e4, e5, e6, e7⟩ := cells8 (P6.out.st.at 0 rfl)
                    obtain ⟨c0, c1, c2⟩ := cells3 (P6.out.st.at 1 rfl)
                    go_wp2_with fail
                    refine (R1.out _).mono ?_
                    rintro e w7 ⟨⟨u2, rfl⟩, b7⟩
                    have P7 := Lib.hid (P6.out.next b7)
                    clear R1 P6 b7 e0 e1 e2 e3 e4 e5 e6 e7 c0 c1 c2
                    obtain ⟨c0, c1, c2⟩ := cells3 (P7.out.st.at 1 rfl)
                    obtain ⟨f0, f1, f2⟩ := frozen3 (P7.out.st.at 1 rfl)
                    have P8 := Lib.hid ((P7.out.sub (M := [(k, rk m b r)]) (by simp)).box (kept3 w7 k (.int .i64 m9) (.int .i64 b9) (.int .i64 r9)) (put3 (P7.out.st.at 1 rfl) (.int .i64 m9) (.int .i64 b9) (.int .i64 r9)) K02.out (by simp) (by have := GK2.out; omega) (fun a ha => by have := HX.out a ha; omega))
                    clear P7
                    go_upto_region 37 with (fail)
                    generalize ((w7.setCell ⟨k, 0, none⟩ (.int .i64 m9)).setCell ⟨k, 1, none⟩ (.int .i64 b9)).setCell ⟨k, 2, none⟩ (.int .i64 r9) = w9 at *
                    clear c0 c1 c2 f0 f1 f2
                    rcases S with _ | ⟨⟨y0, y1, y2, y3, y4, y5, y6, y7, y8⟩, S⟩
                    · have NX := P8.out.nxt
                      dsimp only [PermW.nxt] at NX
                      have NX := Lib.hid NX
                      go_wp2_with fail
                      refine NX.out.mono ?_
                      rintro e w8 ⟨rfl, P9⟩
                      have P9 := Lib.hid P9
                      have LN := P9.out.len
                      simp only [List.length_nil] at LN
                      have LN := Lib.hid LN
                      clear NX P8
                      go_wp2_with (go_at_call 19; (with_reducible refine LN.out.mono ?_); rintro e w' ⟨rfl, hw⟩; obtain rfl := hw.symm)
                      go_roundw
                      case rel => exact ⟨i + 1, m9, b9, r9, [], N, _, cp, by simp, rfl, Lib.hid (by omega), Lib.hid (by have := HN.out; omega), Lib.hid ⟨P9.out.sub (by simp), HX.out, GK2.out, K02.out, HC.out⟩⟩
                      case measure => simp only [intOf]; omega
                    · have NX := P8.out.nxt
                      dsimp only [PermW.nxt] at NX
                      have NX := Lib.hid NX
                      go_wp2_with fail
                      refine NX.out.mono ?_
                      rintro e w8 ⟨rfl, P9⟩
                      have P9 := Lib.hid P9
                      obtain ⟨g8, o8, rfl, -, ⟨-, -, -, -, -, l5⟩, -⟩ := P9.out.li.tail
                      skip
                      have LN := P9.out.len
                      obtain ⟨sl, hsl⟩ : ∃ sl, S.length + 1 = sl := ⟨_, rfl⟩
                      have sl0 : (0 : Int) < (sl : Int) := by omega
                      simp only [List.length_cons] at LN
                      (try rw [List.length_cons])
                      rw [hsl] at LN ⊢
                      have HSL := Lib.hid hsl
                      have LN := Lib.hid LN
                      clear NX P8 hsl
                      dsimp only at l5
                      go_wp2_with (go_at_call 19; (with_reducible refine LN.out.mono ?_); rintro e w' ⟨rfl, hw⟩; obtain rfl := hw.symm)
                      rw [← HSL.out]
                      go_roundw
                      case rel => exact ⟨i + 1, m9, b9, r9, ⟨y0, y1, y2, y3, y4, y5, y6, y7, y8⟩ :: S, N, _, cp, by simp, rfl, Lib.hid (by omega), Lib.hid (by have := HN.out; omega), Lib.hid ⟨P9.out.sub (by simp), HX.out, GK2.out, K02.out, HC.out⟩⟩
                      case measure => simp only [intOf]; omega
                · have n5 : (kd == 5) = false := by rw [beq_eq_false_iff_ne]; exact k5
                  clear k1 k3 k4 k5
                  as_aux_lemma =>
                    rcases S with _ | ⟨⟨y0, y1, y2, y3, y4, y5, y6, y7, y8⟩, S⟩
                    · have NX := P5.out.nxt
                      dsimp only [PermW.nxt] at NX
                      have NX := Lib.hid NX
                      go_wp2_with fail
                      refine NX.out.mono ?_
                      rintro e w8 ⟨rfl, P8⟩
                      have P8 := Lib.hid P8
                      have LN := P8.out.len
                      simp only [List.length_nil] at LN
                      have LN := Lib.hid LN
                      clear NX P5
                      go_wp2_with (go_at_call 19; (with_reducible refine LN.out.mono ?_); rintro e w' ⟨rfl, hw⟩; obtain rfl := hw.symm)
                      go_roundw
                      case rel => exact ⟨i + 1, m, b, r, [], N, _, cp, by simp, rfl, Lib.hid (by omega), Lib.hid (by have := HN.out; omega), Lib.hid ⟨P8.out.sub (by simp), HX.out, GK2.out, K02.out, HC.out⟩⟩
                      case measure => simp only [intOf]; omega
                    · have NX := P5.out.nxt
                      dsimp only [PermW.nxt] at NX
                      have NX := Lib.hid NX
                      go_wp2_with fail
                      refine NX.out.mono ?_
                      rintro e w8 ⟨rfl, P8⟩
                      have P8 := Lib.hid P8
                      obtain ⟨g8, o8, rfl, -, ⟨-, -, -, -, -, l5⟩, -⟩ := P8.out.li.tail
                      skip
                      have LN := P8.out.len
                      obtain ⟨sl, hsl⟩ : ∃ sl, S.length + 1 = sl := ⟨_, rfl⟩
                      have sl0 : (0 : Int) < (sl : Int) := by omega
                      simp only [List.length_cons] at LN
                      (try rw [List.length_cons])
                      rw [hsl] at LN ⊢
                      have HSL := Lib.hid hsl
                      have LN := Lib.hid LN
                      clear NX P5 hsl
                      dsimp only at l5
                      go_wp2_with (go_at_call 19; (with_reducible refine LN.out.mono ?_); rintro e w' ⟨rfl, hw⟩; obtain rfl := hw.symm)
                      rw [← HSL.out]
                      go_roundw
                      case rel => exact ⟨i + 1, m, b, r, ⟨y0, y1, y2, y3, y4, y5, y6, y7, y8⟩ :: S, N, _, cp, by simp, rfl, Lib.hid (by omega), Lib.hid (by have := HN.out; omega), Lib.hid ⟨P8.out.sub (by simp), HX.out, GK2.out, K02.out, HC.out⟩⟩
                      case measure => simp only [intOf]; omega
        · go_wp2
          go_ret
          exact ⟨rfl, P.out.st.b⟩
set_option maxRecDepth 100000 in
/-- What the walk gives, for every argument and every world. -/
theorem contract (H : Type) (enc : TypeId × Value → H) (W : World) (base : Nat) (args : Array Value) (ds gs : List (DataW H)) (before : List MemPlace)
    (hval : ∀ (j : Nat) t v, Try.f3.params[j]? = some t → args[j]? = some v → Value.okWide Try.prog W .any base t v)
    (hW : DataW.Whole enc Try.prog Try.f3.params.toList Rows.permPlaysSpec.vars false W args.toList ds gs before) (hz : (DataW.weightsEach Try.prog (Try.f3.params.toList ++ (OpenSpec.ofChange Rows.permPlaysSpec).bare.plain.varTypes Try.prog) (ds ++ gs)).all (· ≤ reachBytes) = true) : 
    Calls Try.prog 3 args W fun e W' => ∃ v, e = .returned v ∧ Rows.permPlaysSpec.post enc Try.prog Try.f3 false true false false W args v W' := by
  have hW' := hW
  obtain ⟨p, q, hA0, hV, rfl, hfz, hnd⟩ := hW
  have hA : DataW.TrodAll enc Try.prog W 0 (fun _ => true) true Try.f3.params.toList args.toList ds p := hA0
  rw [Try.params3] at hA hval
  obtain ⟨v0, vs0, d0, ds0, p0, q0, hargs, rfl, rfl, h0, r0⟩ := trodAll_cons hA
  obtain ⟨v1, vs1, d1, ds1, p1, q1, rfl, rfl, rfl, h1, r1⟩ := trodAll_cons r0
  obtain ⟨v2, vs2, d2, ds2, p2, q2, rfl, rfl, rfl, h2, r2⟩ := trodAll_cons r1
  obtain ⟨rfl, rfl, rfl⟩ := trodAll_nil r2
  obtain rfl : args = #[v0, v1, v2] := by cases args; simp_all
  obtain ⟨rfl, rfl⟩ := trodVars_none hV
  obtain ⟨d, rfl, rfl, rfl, w0⟩ := open_int Try.underlying2 (hval 0 2 v0 rfl rfl) h0
  obtain ⟨l1, rfl, hl1, w1⟩ := open_array Try.underlying22 Try.underlying2 (by kernel_rfl) (by kernel_rfl) (hval 1 22 v1 rfl rfl) h1
  obtain ⟨s0, s1, s2, rfl⟩ := len3 hl1
  have s0w := i64_wf (w1 s0 (by simp))
  have s1w := i64_wf (w1 s1 (by simp))
  have s2w := i64_wf (w1 s2 (by simp))
  obtain ⟨A2, ops, c2, rfl, f2, l2, lc2, sz2, nl2⟩ := Shell.open_rowsF (qs := ks8) Try.underlying23 (by kernel_rfl) nums_op (hval 2 23 v2 rfl rfl) h2
  have z2 : ops.length * 64 ≤ 140737488351232 := by
    rcases sz2 with h | ⟨es, sp, hd, hl⟩
    · rw [h]; decide
    · have := sized_slice hz (j := 2) (t := 23) (e := 39) (elems := es) (spare := sp) (by rw [Try.params3]; rfl) (by rw [hd]; rfl) Try.underlying23
      rw [show Try.prog.bytesOf 39 = 64 by kernel_rfl, show reachBytes = 140737488351232 from rfl] at this
      omega
  refine (walk d s0 s1 s2 A2 ops c2 W f2 (by omega)).mono fun e W' ⟨he, hb⟩ => ?_
  exact ⟨_, he, Shell.post_law laidOut (by kernel_rfl) rfl Try.underlying4 rfl hW' rfl hb⟩
theorem reads (os : Os) {H : Type} (enc : TypeId × Value → H) : ∃ places, DataW.whole enc Try.prog ((World.holding Try.prog os ⟨#[], #[], []⟩).forCall (fun _ _ => 0) ⟨#[], #[.int .i64 0, .agg #[.int .i64 0, .int .i64 0, .int .i64 0], .slice none 0 0], []⟩).memory Try.f3.params.toList Rows.permPlaysSpec.vars false (#[Value.int .i64 0, Value.agg #[.int .i64 0, .int .i64 0, .int .i64 0], Value.slice none 0 0]).toList 8 = some ([.lit (.int .i64 0), .agg [.lit (.int .i64 0), .lit (.int .i64 0), .lit (.int .i64 0)], .nil], [], places) :=
  ⟨[], by kernel_rfl⟩
set_option maxRecDepth 100000 in
theorem lifted (os : Os) (started : os.Started) (H : Type) (enc : TypeId × Value → H) (F : Stop.Interp) :
    ReturnsInHanded {} Try.checked os 3 .any ((OpenSpec.ofChange Rows.permPlaysSpec).preRow enc Try.prog Try.f3 Rows.permPlaysRow.domain false Rows.permPlaysRow.laid) (((OpenSpec.ofChange Rows.permPlaysSpec).at F).post enc Try.prog Try.f3 false true false false) := by
  obtain ⟨places, hx⟩ := reads os enc
  refine returnsInHanded_of_row (C := Try.checked) (s := OpenSpec.ofChange Rows.permPlaysSpec) own started (by kernel_rfl) Try.func3
    (witness_row_atRef (enc := enc) (C := Try.checked) false (World.holding Try.prog os ⟨#[], #[], []⟩) #[.int .i64 0, .agg #[.int .i64 0, .int .i64 0, .int .i64 0], .slice none 0 0] rfl (by kernel_rfl) (by kernel_rfl) (by kernel_rfl)
      (OpenSpec.preRow_of_cond 8 hx (by kernel_rfl) (fun k hk => by cases hk) (by kernel_rfl) (laid_met os _))) ?_
  intro W base args ds gs before hval hW _ _ hz hL _ _
  exact contract H enc W base args ds gs before hval hW hz
theorem said : Rows.PermPlaysSaid :=
  OpenClaim.holds_of_cond 3 Try.f3 rfl rfl rfl rfl rfl rfl rfl ⟨rfl, rfl, rfl, rfl, rfl⟩ rfl rfl rfl rfl rfl (by kernel_rfl) Try.func3 (by kernel_rfl)
    (of_decide_eq_true (by kernel_rfl)) (by unfold Func.isWrapper; first | (rw [if_pos (by decide +kernel)]; kernel_rfl) | (rw [if_neg (by decide +kernel)]; exact ⟨rfl, rfl⟩))
    (fun os started H enc _ F => by rw [OpenClaim.pre_eq_preRow]; exact lifted os started H enc F)
end Go.Proofs.Ytmkgnkbcdkcboaa.PermW.PermPlays
