/- tocsinlaw06.FrameReads. -/
import Derived.Test.YtjejljjahmbhiaaFrameSealed
import Derived.Test.YtjejljjahmbhiaaFrameQ
namespace Go.Proofs.Ytjejljjahmbhiaa.FrameW.FrameReads
open Go.ChangeShapes Go.WideShapes Go.ChangeAt Go.RowKit Shell
theorem okC_not {l : List Int} (h : okC l) : ¬ okD l := by
  intro d
  have h1 := (chk_ok.1 h.1).2.2.1
  have h2 := (chk_ok.1 d.1).2.2.1
  rw [h1] at h2
  cases h2
set_option maxHeartbeats 16000000 in
theorem walk (A : Option Addr) (xs : List Int) (c : Nat) (w : World) (hf : BL w A xs) (hc : xs.length ≤ c) (hl : xs.length ≤ 140737488351232) :
    Calls Try.prog 5 #[.slice A xs.length c] w fun e w' => e = .returned (.bool true) ∧ Below w.heap.size w w' := by
  have HX := Lib.hid (show ∀ W, Calls Try.prog 11 #[] W fun e w' => e = .returned (.bool true) ∧ Below W.heap.size W w' from fixed_any)
  have HF := Lib.hid hf
  have HL := Lib.hid (show xs.length ≤ 9223372036854775807 by omega)
  have HC := Lib.hid hc
  have HS1 := Lib.hid (fun W (hW : BL W A xs) => sum_any A c xs W hW (by omega))
  have HS2 := Lib.hid (fun W (hW : BL W A xs) => refSum_any A c xs W hW (by omega))
  have hy := hf.by
  by_cases oc : okC xs
  · obtain ⟨q, l, n, p, u, hD⟩ := rdv_form xs
    have HD := Lib.hid hD
    obtain ⟨E1, E2⟩ := rc_ok oc
    have D1 := (rd_not (okC_not oc)).1
    have hbk := (ctl_back hy oc.1).2 oc.2.2
    have HR := Lib.hid oc.2.1
    obtain ⟨k, hk⟩ : ∃ k, k = kOf xs := ⟨_, rfl⟩
    obtain ⟨f, hf2⟩ : ∃ f, f = fOf xs := ⟨_, rfl⟩
    obtain ⟨cy, hcy⟩ : ∃ f, f = cyOf xs := ⟨_, rfl⟩
    obtain ⟨cr, hcr⟩ : ∃ f, f = crOf xs := ⟨_, rfl⟩
    obtain ⟨cl, hcl⟩ : ∃ f, f = clOf xs := ⟨_, rfl⟩
    rw [← hk, ← hf2, ← hcy, ← hcr, ← hcl] at hbk HR E2
    have HV := Lib.hid (show rcV xs = .agg #[.int .i64 k, .int .i64 f, .int .i64 cy, .int .u32 cr, .int .i64 cl] from E2)
    have HE := Lib.hid E1
    obtain ⟨D, hDD⟩ : ∃ D, D = rdE xs := ⟨_, rfl⟩
    have HG := Lib.hid hDD.symm
    rw [← hDD] at D1
    have dn : (D == 0) = false := by simp [D1]
    have HB := Lib.hid hbk
    clear hf hc hl hy oc hD E1 E2 D1 hbk hk hf2 hcy hcr hcl hDD
    go_enter Try.func5, Try.ntmps5
    go_wp2_with fail
    refine (HX.out _).mono ?_
    rintro e w4 ⟨rfl, b4⟩
    have F4 := Lib.hid (HF.out.below b4)
    have B4 := Lib.hid b4
    clear b4
    go_wp2_with fail
    refine (readControl_any A c xs w4 F4.out HL.out HC.out).mono ?_
    rw [HV.out, HE.out]
    rintro e w5 ⟨rfl, b5⟩
    have F5 := Lib.hid (F4.out.below b5)
    have B5 := Lib.hid (B4.out.trans (b5.mono B4.out.size))
    clear b5 F4 B4
    go_wp2_with fail
    have X5 := heap_alloc_new w5 (cbox k f cy cr cl)
    have b6 := al (Below.refl w5.heap.size w5) (cbox k f cy cr cl)
    generalize w5.heap.size = g5 at X5 ⊢
    have F6 := Lib.hid (F5.out.below b6)
    have B6 := Lib.hid (B5.out.trans (b6.mono B5.out.size))
    generalize w5.alloc (cbox k f cy cr cl) = w6 at *
    have X6 := Lib.hid X5
    clear b6 F5 B5 X5
    refine (readData_any A c xs w6 F6.out HL.out HC.out).mono ?_
    rw [HD.out, HG.out]
    rintro e w7 ⟨rfl, b7⟩
    have F7 := Lib.hid (F6.out.below b7)
    have B7 := Lib.hid (B6.out.trans (b7.mono B6.out.size))
    have X7 := Lib.hid (row_below b7 X6.out)
    clear b7 F6 B6 X6
    go_wp2_with fail
    have Y7 := heap_alloc_new w7 (dbox q l n p u)
    have b8 := al (Below.refl w7.heap.size w7) (dbox q l n p u)
    generalize w7.heap.size = g7 at Y7 ⊢
    have F8 := Lib.hid (F7.out.below b8)
    have B8 := Lib.hid (B7.out.trans (b8.mono B7.out.size))
    have X8 := Lib.hid (row_below b8 X7.out)
    generalize w7.alloc (dbox q l n p u) = w8 at *
    have Y8 := Lib.hid Y7
    clear b8 F7 B7 X7 Y7
    refine (refReadControl_any A c xs w8 F8.out HL.out HC.out).mono ?_
    rw [HV.out, HE.out]
    rintro e w9 ⟨rfl, b9⟩
    have F9 := Lib.hid (F8.out.below b9)
    have B9 := Lib.hid (B8.out.trans (b9.mono B8.out.size))
    have X9 := Lib.hid (row_below b9 X8.out)
    have Y9 := Lib.hid (row_below b9 Y8.out)
    clear b9 F8 B8 X8 Y8
    go_wp2_with fail
    have Z9 := heap_alloc_new w9 (cbox k f cy cr cl)
    have b10 := al (Below.refl w9.heap.size w9) (cbox k f cy cr cl)
    generalize w9.heap.size = g9 at Z9 ⊢
    have F10 := Lib.hid (F9.out.below b10)
    have B10 := Lib.hid (B9.out.trans (b10.mono B9.out.size))
    have X10 := Lib.hid (row_below b10 X9.out)
    have Y10 := Lib.hid (row_below b10 Y9.out)
    generalize w9.alloc (cbox k f cy cr cl) = w10 at *
    have Z10 := Lib.hid Z9
    clear b10 F9 B9 X9 Y9 Z9
    refine (refReadData_any A c xs w10 F10.out HL.out HC.out).mono ?_
    rw [HD.out, HG.out]
    rintro e w11 ⟨rfl, b11⟩
    have b12 := al (Below.refl w11.heap.size w11) (dbox q l n p u)
    have F11 := Lib.hid ((F10.out.below b11).below b12)
    have B11 := Lib.hid ((B10.out.trans (b11.mono B10.out.size)).alloc (B10.out.trans (b11.mono B10.out.size)).size (dbox q l n p u))
    have X11 := Lib.hid (row_below b12 (row_below b11 X10.out))
    have Y11 := Lib.hid (row_below b12 (row_below b11 Y10.out))
    obtain ⟨c0, c1, c2, c3, c4⟩ := cells5 X11.out
    obtain ⟨d0, d1, d2, d3, d4⟩ := cells5 Y11.out
    obtain ⟨e0, e1, e2, e3, e4⟩ := cells5 (row_below b12 (row_below b11 Z10.out))
    clear b11 b12 F10 B10 X10 Y10 Z10
    have q1 := neq_ctl k f cy cr cl
    have q2 := neq_dat q l n p u
    have q3 := guardC
    have q4 := guardD
    go_wp2_with (first
      | (go_at_call 23; (with_reducible refine (HS1.out _ F11.out).mono ?_); rintro e w' ⟨rfl, hw⟩; obtain rfl := hw.symm)
      | (go_at_call 24; (with_reducible refine (HS2.out _ F11.out).mono ?_); rintro e w' ⟨rfl, hw⟩; obtain rfl := hw.symm))
    refine (control_ok k f cy cr cl _ HR.out).mono ?_
    rw [HB.out]
    rintro e w13 ⟨v13, rfl, o13, b13⟩
    have B13 := Lib.hid (B11.out.trans (b13.mono B11.out.size))
    obtain ⟨A13, m13, d13, rfl, hm13, hb13, -⟩ := o13.form2
    have t1 := conv_str (c := d13) hb13 hm13
    have t2 := conv_str (c := c) (F11.out.below b13) rfl
    clear o13 b13 hm13 hb13 c0 c1 c2 c3 c4 d0 d1 d2 d3 d4 e0 e1 e2 e3 e4 q1 q2 q3 q4
    generalize strOfNums xs = S at *
    go_wp2
    go_ret
    exact ⟨rfl, B13.out⟩
  by_cases od : okD xs
  · obtain ⟨k, f, cy, cr, cl, hV⟩ := rcv_form xs
    have HV := Lib.hid hV
    obtain ⟨E1, E2⟩ := rd_ok od
    have D1 := (rc_not oc).1
    have hbk := (dat_back hy od.1 od.2.1).2 od.2.2.1
    have hbs : bs (strOfNums (pOf xs)) = pOf xs := bs_str (hy.drop 10 |>.take _)
    have hR := od.2.2.2
    rw [← hbs] at hR hbk
    obtain ⟨q, hk⟩ : ∃ k, k = cOf xs := ⟨_, rfl⟩
    obtain ⟨l, hf2⟩ : ∃ f, f = lOf xs := ⟨_, rfl⟩
    obtain ⟨n, hcy⟩ : ∃ f, f = nOf xs := ⟨_, rfl⟩
    obtain ⟨p, hcr⟩ : ∃ f, f = strOfNums (pOf xs) := ⟨_, rfl⟩
    obtain ⟨u, hcl⟩ : ∃ u : Int, u = (xs.length : Int) := ⟨_, rfl⟩
    rw [← hk, ← hf2, ← hcy, ← hcr, ← hcl] at hbk hR E2
    have HR := Lib.hid hR
    have HD := Lib.hid (show rdV xs = .agg #[.int .i64 q, .int .i64 l, .int .i64 n, .string p, .int .i64 u] from E2)
    have HG := Lib.hid E1
    obtain ⟨E, hDD⟩ : ∃ D, D = rcE xs := ⟨_, rfl⟩
    have HE := Lib.hid hDD.symm
    rw [← hDD] at D1
    have dn : (E == 0) = false := by simp [D1]
    have HB := Lib.hid hbk
    clear hf hc hl hy oc od hV E1 E2 D1 hbk hk hf2 hcy hcr hcl hDD hbs hR
    go_enter Try.func5, Try.ntmps5
    go_wp2_with fail
    refine (HX.out _).mono ?_
    rintro e w4 ⟨rfl, b4⟩
    have F4 := Lib.hid (HF.out.below b4)
    have B4 := Lib.hid b4
    clear b4
    go_wp2_with fail
    refine (readControl_any A c xs w4 F4.out HL.out HC.out).mono ?_
    rw [HV.out, HE.out]
    rintro e w5 ⟨rfl, b5⟩
    have F5 := Lib.hid (F4.out.below b5)
    have B5 := Lib.hid (B4.out.trans (b5.mono B4.out.size))
    clear b5 F4 B4
    go_wp2_with fail
    have X5 := heap_alloc_new w5 (cbox k f cy cr cl)
    have b6 := al (Below.refl w5.heap.size w5) (cbox k f cy cr cl)
    generalize w5.heap.size = g5 at X5 ⊢
    have F6 := Lib.hid (F5.out.below b6)
    have B6 := Lib.hid (B5.out.trans (b6.mono B5.out.size))
    generalize w5.alloc (cbox k f cy cr cl) = w6 at *
    have X6 := Lib.hid X5
    clear b6 F5 B5 X5
    refine (readData_any A c xs w6 F6.out HL.out HC.out).mono ?_
    rw [HD.out, HG.out]
    rintro e w7 ⟨rfl, b7⟩
    have F7 := Lib.hid (F6.out.below b7)
    have B7 := Lib.hid (B6.out.trans (b7.mono B6.out.size))
    have X7 := Lib.hid (row_below b7 X6.out)
    clear b7 F6 B6 X6
    go_wp2_with fail
    have Y7 := heap_alloc_new w7 (dbox q l n p u)
    have b8 := al (Below.refl w7.heap.size w7) (dbox q l n p u)
    generalize w7.heap.size = g7 at Y7 ⊢
    have F8 := Lib.hid (F7.out.below b8)
    have B8 := Lib.hid (B7.out.trans (b8.mono B7.out.size))
    have X8 := Lib.hid (row_below b8 X7.out)
    generalize w7.alloc (dbox q l n p u) = w8 at *
    have Y8 := Lib.hid Y7
    clear b8 F7 B7 X7 Y7
    refine (refReadControl_any A c xs w8 F8.out HL.out HC.out).mono ?_
    rw [HV.out, HE.out]
    rintro e w9 ⟨rfl, b9⟩
    have F9 := Lib.hid (F8.out.below b9)
    have B9 := Lib.hid (B8.out.trans (b9.mono B8.out.size))
    have X9 := Lib.hid (row_below b9 X8.out)
    have Y9 := Lib.hid (row_below b9 Y8.out)
    clear b9 F8 B8 X8 Y8
    go_wp2_with fail
    have Z9 := heap_alloc_new w9 (cbox k f cy cr cl)
    have b10 := al (Below.refl w9.heap.size w9) (cbox k f cy cr cl)
    generalize w9.heap.size = g9 at Z9 ⊢
    have F10 := Lib.hid (F9.out.below b10)
    have B10 := Lib.hid (B9.out.trans (b10.mono B9.out.size))
    have X10 := Lib.hid (row_below b10 X9.out)
    have Y10 := Lib.hid (row_below b10 Y9.out)
    generalize w9.alloc (cbox k f cy cr cl) = w10 at *
    have Z10 := Lib.hid Z9
    clear b10 F9 B9 X9 Y9 Z9
    refine (refReadData_any A c xs w10 F10.out HL.out HC.out).mono ?_
    rw [HD.out, HG.out]
    rintro e w11 ⟨rfl, b11⟩
    have b12 := al (Below.refl w11.heap.size w11) (dbox q l n p u)
    have F11 := Lib.hid ((F10.out.below b11).below b12)
    have B11 := Lib.hid ((B10.out.trans (b11.mono B10.out.size)).alloc (B10.out.trans (b11.mono B10.out.size)).size (dbox q l n p u))
    have X11 := Lib.hid (row_below b12 (row_below b11 X10.out))
    have Y11 := Lib.hid (row_below b12 (row_below b11 Y10.out))
    obtain ⟨c0, c1, c2, c3, c4⟩ := cells5 X11.out
    obtain ⟨d0, d1, d2, d3, d4⟩ := cells5 Y11.out
    obtain ⟨e0, e1, e2, e3, e4⟩ := cells5 (row_below b12 (row_below b11 Z10.out))
    clear b11 b12 F10 B10 X10 Y10 Z10
    have q1 := neq_ctl k f cy cr cl
    have q2 := neq_dat q l n p u
    have q3 := guardC
    have q4 := guardD
    go_wp2_with (first
      | (go_at_call 23; (with_reducible refine (HS1.out _ F11.out).mono ?_); rintro e w' ⟨rfl, hw⟩; obtain rfl := hw.symm)
      | (go_at_call 24; (with_reducible refine (HS2.out _ F11.out).mono ?_); rintro e w' ⟨rfl, hw⟩; obtain rfl := hw.symm))
    refine (data_ok q l n p u _ HR.out).mono ?_
    rw [HB.out]
    rintro e w13 ⟨v13, rfl, o13, b13⟩
    have B13 := Lib.hid (B11.out.trans (b13.mono B11.out.size))
    obtain ⟨A13, m13, d13, rfl, hm13, hb13, -⟩ := o13.form2
    have t1 := conv_str (c := d13) hb13 hm13
    have t2 := conv_str (c := c) (F11.out.below b13) rfl
    clear o13 b13 hm13 hb13 c0 c1 c2 c3 c4 d0 d1 d2 d3 d4 e0 e1 e2 e3 e4 q1 q2 q3 q4
    generalize strOfNums xs = S at *
    go_wp2
    go_ret
    exact ⟨rfl, B13.out⟩
  · obtain ⟨k, f, cy, cr, cl, hV⟩ := rcv_form xs
    obtain ⟨q, l, n, p, u, hD⟩ := rdv_form xs
    have HV := Lib.hid hV
    have HD := Lib.hid hD
    have E1 := (rc_not oc).1
    have D1 := (rd_not od).1
    obtain ⟨E, hEE⟩ : ∃ D, D = rcE xs := ⟨_, rfl⟩
    obtain ⟨D, hDD⟩ : ∃ D, D = rdE xs := ⟨_, rfl⟩
    have HE := Lib.hid hEE.symm
    have HG := Lib.hid hDD.symm
    rw [← hEE] at E1
    rw [← hDD] at D1
    have en : (E == 0) = false := by simp [E1]
    have dn : (D == 0) = false := by simp [D1]
    clear hf hc hl hy oc od hV hD E1 D1 hEE hDD
    go_enter Try.func5, Try.ntmps5
    go_wp2_with fail
    refine (HX.out _).mono ?_
    rintro e w4 ⟨rfl, b4⟩
    have F4 := Lib.hid (HF.out.below b4)
    have B4 := Lib.hid b4
    clear b4
    go_wp2_with fail
    refine (readControl_any A c xs w4 F4.out HL.out HC.out).mono ?_
    rw [HV.out, HE.out]
    rintro e w5 ⟨rfl, b5⟩
    have F5 := Lib.hid (F4.out.below b5)
    have B5 := Lib.hid (B4.out.trans (b5.mono B4.out.size))
    clear b5 F4 B4
    go_wp2_with fail
    have X5 := heap_alloc_new w5 (cbox k f cy cr cl)
    have b6 := al (Below.refl w5.heap.size w5) (cbox k f cy cr cl)
    generalize w5.heap.size = g5 at X5 ⊢
    have F6 := Lib.hid (F5.out.below b6)
    have B6 := Lib.hid (B5.out.trans (b6.mono B5.out.size))
    generalize w5.alloc (cbox k f cy cr cl) = w6 at *
    have X6 := Lib.hid X5
    clear b6 F5 B5 X5
    refine (readData_any A c xs w6 F6.out HL.out HC.out).mono ?_
    rw [HD.out, HG.out]
    rintro e w7 ⟨rfl, b7⟩
    have F7 := Lib.hid (F6.out.below b7)
    have B7 := Lib.hid (B6.out.trans (b7.mono B6.out.size))
    have X7 := Lib.hid (row_below b7 X6.out)
    clear b7 F6 B6 X6
    go_wp2_with fail
    have Y7 := heap_alloc_new w7 (dbox q l n p u)
    have b8 := al (Below.refl w7.heap.size w7) (dbox q l n p u)
    generalize w7.heap.size = g7 at Y7 ⊢
    have F8 := Lib.hid (F7.out.below b8)
    have B8 := Lib.hid (B7.out.trans (b8.mono B7.out.size))
    have X8 := Lib.hid (row_below b8 X7.out)
    generalize w7.alloc (dbox q l n p u) = w8 at *
    have Y8 := Lib.hid Y7
    clear b8 F7 B7 X7 Y7
    refine (refReadControl_any A c xs w8 F8.out HL.out HC.out).mono ?_
    rw [HV.out, HE.out]
    rintro e w9 ⟨rfl, b9⟩
    have F9 := Lib.hid (F8.out.below b9)
    have B9 := Lib.hid (B8.out.trans (b9.mono B8.out.size))
    have X9 := Lib.hid (row_below b9 X8.out)
    have Y9 := Lib.hid (row_below b9 Y8.out)
    clear b9 F8 B8 X8 Y8
    go_wp2_with fail
    have Z9 := heap_alloc_new w9 (cbox k f cy cr cl)
    have b10 := al (Below.refl w9.heap.size w9) (cbox k f cy cr cl)
    generalize w9.heap.size = g9 at Z9 ⊢
    have F10 := Lib.hid (F9.out.below b10)
    have B10 := Lib.hid (B9.out.trans (b10.mono B9.out.size))
    have X10 := Lib.hid (row_below b10 X9.out)
    have Y10 := Lib.hid (row_below b10 Y9.out)
    generalize w9.alloc (cbox k f cy cr cl) = w10 at *
    have Z10 := Lib.hid Z9
    clear b10 F9 B9 X9 Y9 Z9
    refine (refReadData_any A c xs w10 F10.out HL.out HC.out).mono ?_
    rw [HD.out, HG.out]
    rintro e w11 ⟨rfl, b11⟩
    have b12 := al (Below.refl w11.heap.size w11) (dbox q l n p u)
    have F11 := Lib.hid ((F10.out.below b11).below b12)
    have B11 := Lib.hid ((B10.out.trans (b11.mono B10.out.size)).alloc (B10.out.trans (b11.mono B10.out.size)).size (dbox q l n p u))
    have X11 := Lib.hid (row_below b12 (row_below b11 X10.out))
    have Y11 := Lib.hid (row_below b12 (row_below b11 Y10.out))
    obtain ⟨c0, c1, c2, c3, c4⟩ := cells5 X11.out
    obtain ⟨d0, d1, d2, d3, d4⟩ := cells5 Y11.out
    obtain ⟨e0, e1, e2, e3, e4⟩ := cells5 (row_below b12 (row_below b11 Z10.out))
    clear b11 b12 F10 B10 X10 Y10 Z10
    have q1 := neq_ctl k f cy cr cl
    have q2 := neq_dat q l n p u
    have q3 := guardC
    have q4 := guardD
    go_wp2_with (first
      | (go_at_call 23; (with_reducible refine (HS1.out _ F11.out).mono ?_); rintro e w' ⟨rfl, hw⟩; obtain rfl := hw.symm)
      | (go_at_call 24; (with_reducible refine (HS2.out _ F11.out).mono ?_); rintro e w' ⟨rfl, hw⟩; obtain rfl := hw.symm))
    go_ret
    exact ⟨rfl, B11.out⟩
set_option maxRecDepth 100000 in
/-- What the walk gives, for every argument and every world. -/
theorem contract (H : Type) (enc : TypeId × Value → H) (W : World) (base : Nat) (args : Array Value) (ds gs : List (DataW H)) (before : List MemPlace)
    (hval : ∀ (j : Nat) t v, Try.f5.params[j]? = some t → args[j]? = some v → Value.okWide Try.prog W .any base t v)
    (hW : DataW.Whole enc Try.prog Try.f5.params.toList Rows.frameReadsSpec.vars false W args.toList ds gs before) (hz : (DataW.weightsEach Try.prog (Try.f5.params.toList ++ (OpenSpec.ofChange Rows.frameReadsSpec).bare.plain.varTypes Try.prog) (ds ++ gs)).all (· ≤ reachBytes) = true) : 
    Calls Try.prog 5 args W fun e W' => ∃ v, e = .returned v ∧ Rows.frameReadsSpec.post enc Try.prog Try.f5 false true false false W args v W' := by
  have hW' := hW
  obtain ⟨p, q, hA0, hV, rfl, hfz, hnd⟩ := hW
  have hA : DataW.TrodAll enc Try.prog W 0 (fun _ => true) true Try.f5.params.toList args.toList ds p := hA0
  rw [Try.params5] at hA hval
  obtain ⟨v0, vs0, d0, ds0, p0, q0, hargs, rfl, rfl, h0, r0⟩ := trodAll_cons hA
  obtain ⟨rfl, rfl, rfl⟩ := trodAll_nil r0
  obtain rfl : args = #[v0] := by cases args; simp_all
  obtain ⟨rfl, rfl⟩ := trodVars_none hV
  obtain ⟨A0, b, c0, rfl, f0, l0, lc0, sz0, nl0⟩ := open_bytes (hval 0 26 v0 rfl rfl) h0
  have z0 : b.length * 1 ≤ 140737488351232 := by
    rcases sz0 with h | ⟨es, sp, hd, hl⟩
    · rw [h]; decide
    · have := sized_slice hz (j := 0) (t := 26) (e := 5) (elems := es) (spare := sp) (by rw [Try.params5]; rfl) (by rw [hd]; rfl) Try.underlying26
      rw [show Try.prog.bytesOf 5 = 1 by kernel_rfl, show reachBytes = 140737488351232 from rfl] at this
      omega
  refine (walk A0 b c0 W f0 lc0 (by omega)).mono fun e W' ⟨he, hb⟩ => ?_
  exact ⟨_, he, Shell.post_law laidOut (by kernel_rfl) rfl Try.underlying4 rfl hW' rfl hb⟩
theorem reads (os : Os) {H : Type} (enc : TypeId × Value → H) : ∃ places, DataW.whole enc Try.prog ((World.holding Try.prog os ⟨#[], #[], []⟩).forCall (fun _ _ => 0) ⟨#[], #[.slice none 0 0], []⟩).memory Try.f5.params.toList Rows.frameReadsSpec.vars false (#[Value.slice none 0 0]).toList 8 = some ([.nil], [], places) :=
  ⟨[], by kernel_rfl⟩
set_option maxRecDepth 100000 in
theorem lifted (os : Os) (started : os.Started) (H : Type) (enc : TypeId × Value → H) (F : Stop.Interp) :
    ReturnsInHanded {} Try.checked os 5 .any ((OpenSpec.ofChange Rows.frameReadsSpec).preRow enc Try.prog Try.f5 Rows.frameReadsRow.domain false Rows.frameReadsRow.laid) (((OpenSpec.ofChange Rows.frameReadsSpec).at F).post enc Try.prog Try.f5 false true false false) := by
  obtain ⟨places, hx⟩ := reads os enc
  refine returnsInHanded_of_row (C := Try.checked) (s := OpenSpec.ofChange Rows.frameReadsSpec) own started (by kernel_rfl) Try.func5
    (witness_row_atRef (enc := enc) (C := Try.checked) false (World.holding Try.prog os ⟨#[], #[], []⟩) #[.slice none 0 0] rfl (by kernel_rfl) (by kernel_rfl) (by kernel_rfl)
      (OpenSpec.preRow_of_cond 8 hx (by kernel_rfl) (fun k hk => by cases hk) (by kernel_rfl) (laid_met os _))) ?_
  intro W base args ds gs before hval hW _ _ hz hL _ _
  exact contract H enc W base args ds gs before hval hW hz
theorem said : Rows.FrameReadsSaid :=
  OpenClaim.holds_of_cond 5 Try.f5 rfl rfl rfl rfl rfl rfl rfl ⟨rfl, rfl, rfl, rfl, rfl⟩ rfl rfl rfl rfl rfl (by kernel_rfl) Try.func5 (by kernel_rfl)
    (of_decide_eq_true (by kernel_rfl)) (by unfold Func.isWrapper; first | (rw [if_pos (by decide +kernel)]; kernel_rfl) | (rw [if_neg (by decide +kernel)]; exact ⟨rfl, rfl⟩))
    (fun os started H enc _ F => by rw [OpenClaim.pre_eq_preRow]; exact lifted os started H enc F)
end Go.Proofs.Ytjejljjahmbhiaa.FrameW.FrameReads
