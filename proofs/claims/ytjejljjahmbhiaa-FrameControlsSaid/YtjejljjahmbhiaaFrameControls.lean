/- tocsinlaw06.FrameControls. -/
import Derived.Test.YtjejljjahmbhiaaFrameEq
namespace Go.Proofs.Ytjejljjahmbhiaa.FrameW.FrameControls
open Go.ChangeShapes Go.WideShapes Go.ChangeAt Go.RowKit Shell
set_option maxHeartbeats 2000000 in
theorem walk (k f cy cr cl : Int) (w : World) (hcr : 0 ≤ cr) :
    Calls Try.prog 3 #[CV k f cy cr cl] w fun e w' => e = .returned (.bool true) ∧ Below w.heap.size w w' := by
  have HX := Lib.hid (show ∀ W, Calls Try.prog 11 #[] W fun e w' => e = .returned (.bool true) ∧ Below W.heap.size W w' from fixed_any)
  have RR := Lib.hid (fun W => refRightControl_any k f cy cr cl W hcr)
  by_cases h : rightC k f cy cr cl
  · rw [decide_eq_true h] at RR
    have HH := Lib.hid h
    have HE := Lib.hid (rc_ctl h)
    have HW := Lib.hid (wh_ctl h)
    clear h
    go_enter Try.func3, Try.ntmps3
    go_wp2_with fail
    have X0 := heap_alloc_new w (cbox k f cy cr cl)
    have B0 := al (Below.refl w.heap.size w) (cbox k f cy cr cl)
    generalize w.alloc (cbox k f cy cr cl) = w0 at *
    refine (HX.out _).mono ?_
    rintro e w1 ⟨rfl, b1⟩
    have X1 := Lib.hid (row_below b1 X0)
    have B1 := Lib.hid (B0.trans (b1.mono B0.size))
    obtain ⟨c0, c1, c2, c3, c4⟩ := cells5 X1.out
    clear b1 X0 B0
    go_wp2_with fail
    refine (control_ok k f cy cr cl w1 HH.out).mono ?_
    rintro e w2 ⟨v2, rfl, o2, b2⟩
    obtain ⟨A2, m2, d2, rfl, hm2, -, -⟩ := o2.form2
    obtain rfl : m2 = 34 := hm2.trans (ctl_len ..)
    have X2 := Lib.hid (row_below b2 X1.out)
    have O2 := Lib.hid o2
    have B2 := Lib.hid (B1.out.trans (b2.mono B1.out.size))
    clear o2 b2 hm2 X1 B1 c0 c1 c2 c3 c4
    obtain ⟨c0, c1, c2, c3, c4⟩ := cells5 X2.out
    go_wp2_with fail
    refine (RR.out _).mono ?_
    rintro e w3 ⟨rfl, b3⟩
    have X3 := Lib.hid (row_below b3 X2.out)
    have O3 := Lib.hid (O2.out.below b3)
    have B3 := Lib.hid (B2.out.trans (b3.mono B2.out.size))
    clear b3 X2 B2 O2 c0 c1 c2 c3 c4
    obtain ⟨c0, c1, c2, c3, c4⟩ := cells5 X3.out
    go_wp2_with fail
    refine (readControl_row O3.out (by rw [ctl_len]; decide)).mono ?_
    rw [HE.out.1, HE.out.2]
    rintro e w4 ⟨rfl, b4⟩
    have X4 := Lib.hid (row_below b4 X3.out)
    have O4 := Lib.hid (O3.out.below b4)
    have B4 := Lib.hid (B3.out.trans (b4.mono B3.out.size))
    clear b4 X3 B3 O3 c0 c1 c2 c3 c4
    obtain ⟨c0, c1, c2, c3, c4⟩ := cells5 X4.out
    go_wp2_with fail
    clear c0 c1 c2 c3 c4
    have Y5 := heap_alloc_new w4 (cbox k f cy cr cl)
    have X5 := (row_below (al (Below.refl w4.heap.size w4) (cbox k f cy cr cl)) X4.out)
    have O5 := Lib.hid (O4.out.alloc (cbox k f cy cr cl))
    have B5 := Lib.hid (B4.out.alloc B4.out.size (cbox k f cy cr cl))
    obtain ⟨g5, hg5⟩ : ∃ g, g = w4.heap.size := ⟨_, rfl⟩
    rw [← hg5] at Y5 ⊢
    obtain ⟨G0, hG0⟩ : ∃ g, g = w.heap.size := ⟨_, rfl⟩
    have HG0 := Lib.hid hG0
    rw [← hG0] at X5 ⊢
    generalize w4.alloc (cbox k f cy cr cl) = w5 at *
    have K5 := Lib.hid (cells10 X5 Y5)
    have X5 := Lib.hid X5
    have Y5 := Lib.hid Y5
    have V := fun W => refControl_ok k f cy cr cl W HH.out
    have Hq := eql_ctl k f cy cr cl
    have hgC := guardC
    have HV := Lib.hid V
    obtain ⟨S, hS⟩ : ∃ S, S = strOfNums (ctl k f cy cr cl) := ⟨_, rfl⟩
    have HS := Lib.hid hS
    have cv5 : (convert 26 9 (.slice A2 34 d2)).run Try.prog w5.drew = .ok (.string S) w5.drew := by rw [hS]; exact conv_row (show OB w5.drew _ _ _ from O5.out)
    clear hG0 hg5 V hS X4 O4 B4
    go_region_held (fun w' => w'.cell? ⟨G0, 0, none⟩ = some (.int .i64 k) ∧ w'.cell? ⟨G0, 1, none⟩ = some (.int .i64 f) ∧ w'.cell? ⟨G0, 2, none⟩ = some (.int .i64 cy) ∧ w'.cell? ⟨G0, 3, none⟩ = some (.int .u32 cr) ∧ w'.cell? ⟨G0, 4, none⟩ = some (.int .i64 cl) ∧ w'.cell? ⟨g5, 0, none⟩ = some (.int .i64 k) ∧ w'.cell? ⟨g5, 1, none⟩ = some (.int .i64 f) ∧ w'.cell? ⟨g5, 2, none⟩ = some (.int .i64 cy) ∧ w'.cell? ⟨g5, 3, none⟩ = some (.int .u32 cr) ∧ w'.cell? ⟨g5, 4, none⟩ = some (.int .i64 cl)) (first | exact K5.out | exact K6.out) (first
      | (go_at_call 15; (with_reducible refine (HV.out _).mono ?_); rintro e w6 ⟨v6, rfl, o6, b6⟩; obtain ⟨A6, m6, d6, rfl, hm6, -, -⟩ := o6.form2; have cv6 := conv_row o6; rw [← HS.out] at cv6; have X6 := Lib.hid (row_below b6 (show w5.drew.heap[G0]? = _ from X5.out)); have Y6 := Lib.hid (row_below b6 (show w5.drew.heap[g5]? = _ from Y5.out)); have K6 := Lib.hid (cells10 X6.out Y6.out); have O6 := Lib.hid (OB.below (w := w5.drew) O5.out b6); have cv7 := conv_row O6.out; rw [← HS.out] at cv7; have B6 := Lib.hid (B5.out.trans ((of_drew b6).mono B5.out.size)); clear o6 b6 hm6)
      | (go_at_call 16; (with_reducible refine (which_row O6.out ?_).mono ?_); (rw [ctl_len]; decide); rintro e w7 ⟨rfl, hw⟩; obtain rfl := hw.symm; rw [HW.out]))
    all_goals
      go_wp2
      go_ret
      exact ⟨rfl, B6.out⟩
  · rw [decide_eq_false h] at RR
    have HB := Lib.hid (fun W => control_bad k f cy cr cl W h hcr)
    clear h
    go_enter Try.func3, Try.ntmps3
    go_wp2_with fail
    have X0 := heap_alloc_new w (cbox k f cy cr cl)
    have B0 := al (Below.refl w.heap.size w) (cbox k f cy cr cl)
    generalize w.alloc (cbox k f cy cr cl) = w0 at *
    refine (HX.out _).mono ?_
    rintro e w1 ⟨rfl, b1⟩
    have X1 := Lib.hid (row_below b1 X0)
    have B1 := Lib.hid (B0.trans (b1.mono B0.size))
    obtain ⟨c0, c1, c2, c3, c4⟩ := cells5 X1.out
    clear b1 X0 B0
    go_wp2_with fail
    refine (HB.out _).mono ?_
    rintro e w2 ⟨rfl, b2⟩
    have X2 := Lib.hid (row_below b2 X1.out)
    have B2 := Lib.hid (B1.out.trans (b2.mono B1.out.size))
    clear b2 X1 B1 c0 c1 c2 c3 c4
    obtain ⟨c0, c1, c2, c3, c4⟩ := cells5 X2.out
    go_wp2_with fail
    refine (RR.out _).mono ?_
    rintro e w3 ⟨rfl, b3⟩
    have B3 := Lib.hid (B2.out.trans (b3.mono B2.out.size))
    clear b3 X2 B2 c0 c1 c2 c3 c4
    go_wp2
    go_ret
    exact ⟨rfl, B3.out⟩
set_option maxRecDepth 100000 in
/-- What the walk gives, for every argument and every world. -/
theorem contract (H : Type) (enc : TypeId × Value → H) (W : World) (base : Nat) (args : Array Value) (ds gs : List (DataW H)) (before : List MemPlace)
    (hval : ∀ (j : Nat) t v, Try.f3.params[j]? = some t → args[j]? = some v → Value.okWide Try.prog W .any base t v)
    (hW : DataW.Whole enc Try.prog Try.f3.params.toList Rows.frameControlsSpec.vars false W args.toList ds gs before) : 
    Calls Try.prog 3 args W fun e W' => ∃ v, e = .returned v ∧ Rows.frameControlsSpec.post enc Try.prog Try.f3 false true false false W args v W' := by
  have hW' := hW
  obtain ⟨p, q, hA0, hV, rfl, hfz, hnd⟩ := hW
  have hA : DataW.TrodAll enc Try.prog W 0 (fun _ => true) true Try.f3.params.toList args.toList ds p := hA0
  rw [Try.params3] at hA hval
  obtain ⟨v0, vs0, d0, ds0, p0, q0, hargs, rfl, rfl, h0, r0⟩ := trodAll_cons hA
  obtain ⟨rfl, rfl, rfl⟩ := trodAll_nil r0
  obtain rfl : args = #[v0] := by cases args; simp_all
  obtain ⟨rfl, rfl⟩ := trodVars_none hV
  obtain ⟨k0, f0, cy0, cr0, cl0, rfl, hcr0⟩ := open_ctl (hval 0 24 v0 rfl rfl) h0
  refine (walk k0 f0 cy0 cr0 cl0 W hcr0).mono fun e W' ⟨he, hb⟩ => ?_
  exact ⟨_, he, Shell.post_law laidOut (by kernel_rfl) rfl Try.underlying4 rfl hW' rfl hb⟩
theorem reads (os : Os) {H : Type} (enc : TypeId × Value → H) : ∃ places, DataW.whole enc Try.prog ((World.holding Try.prog os ⟨#[], #[], []⟩).forCall (fun _ _ => 0) ⟨#[], #[.agg #[.int .i64 0, .int .i64 0, .int .i64 0, .int .u32 0, .int .i64 0]], []⟩).memory Try.f3.params.toList Rows.frameControlsSpec.vars false (#[Value.agg #[.int .i64 0, .int .i64 0, .int .i64 0, .int .u32 0, .int .i64 0]]).toList 8 = some ([.agg [.lit (.int .i64 0), .lit (.int .i64 0), .lit (.int .i64 0), .lit (.int .u32 0), .lit (.int .i64 0)]], [], places) :=
  ⟨[], by kernel_rfl⟩
set_option maxRecDepth 100000 in
theorem lifted (os : Os) (started : os.Started) (H : Type) (enc : TypeId × Value → H) (F : Stop.Interp) :
    ReturnsInHanded {} Try.checked os 3 .any ((OpenSpec.ofChange Rows.frameControlsSpec).preRow enc Try.prog Try.f3 Rows.frameControlsRow.domain false Rows.frameControlsRow.laid) (((OpenSpec.ofChange Rows.frameControlsSpec).at F).post enc Try.prog Try.f3 false true false false) := by
  obtain ⟨places, hx⟩ := reads os enc
  refine returnsInHanded_of_row (C := Try.checked) (s := OpenSpec.ofChange Rows.frameControlsSpec) own started (by kernel_rfl) Try.func3
    (witness_row_atRef (enc := enc) (C := Try.checked) false (World.holding Try.prog os ⟨#[], #[], []⟩) #[.agg #[.int .i64 0, .int .i64 0, .int .i64 0, .int .u32 0, .int .i64 0]] rfl (by kernel_rfl) (by kernel_rfl) (by kernel_rfl)
      (OpenSpec.preRow_of_cond 8 hx (by kernel_rfl) (fun k hk => by cases hk) (by kernel_rfl) (laid_met os _))) ?_
  intro W base args ds gs before hval hW _ _ _ hL _ _
  exact contract H enc W base args ds gs before hval hW
theorem said : Rows.FrameControlsSaid :=
  OpenClaim.holds_of_cond 3 Try.f3 rfl rfl rfl rfl rfl rfl rfl ⟨rfl, rfl, rfl, rfl, rfl⟩ rfl rfl rfl rfl rfl (by kernel_rfl) Try.func3 (by kernel_rfl)
    (of_decide_eq_true (by kernel_rfl)) (by unfold Func.isWrapper; first | (rw [if_pos (by decide +kernel)]; kernel_rfl) | (rw [if_neg (by decide +kernel)]; exact ⟨rfl, rfl⟩))
    (fun os started H enc _ F => by rw [OpenClaim.pre_eq_preRow]; exact lifted os started H enc F)
end Go.Proofs.Ytjejljjahmbhiaa.FrameW.FrameControls
