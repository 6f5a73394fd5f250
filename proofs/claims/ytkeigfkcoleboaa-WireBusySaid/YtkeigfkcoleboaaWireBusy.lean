/- The law WireBusy: a wire is busy from a frame's beginning on till it is off, and at no other time: for all delays and times. No condition. -/
import Derived.Test.YtkeigfkcoleboaaWireFixed
namespace Go.Proofs.Ytkeigfkcoleboaa.WireW.WireBusy
open Go.ChangeShapes Go.WideShapes Go.ChangeAt Go.RowKit FrameW WireW Shell
theorem okT_false {t : Int} (h : okT t = false) : t < 0 ∨ 1125899906842624 < t := by
  by_cases h1 : 0 ≤ t ∧ t ≤ 1125899906842624
  · rw [okT_iff.2 h1] at h; cases h
  · omega
theorem snd100 {t : Int} (h : okT t = true) : sndE 0 0 t 100 = 0 := by
  have q := okT_iff.1 h
  unfold sndE
  rw [h, show okS 100 = true by decide, show bsy 0 0 t = false by unfold bsy; simp]
  simp only [Bool.and_true, if_true, Bool.false_eq_true, if_false]
  rw [if_neg (by omega)]
theorem tim100 : tim 100 = 800 := by decide
set_option maxHeartbeats 2000000 in
set_option maxRecDepth 100000 in
theorem walk (d t a : Int) (w : World) :
    Calls Try.prog 7 #[.int .i64 d, .int .i64 t, .int .i64 a] w fun e w' => e = .returned (.bool true) ∧ Below w.heap.size w w' := by
  go_enter Try.func7, Try.ntmps7
  go_wp2_with fail
  refine (fixed_any _).mono ?_
  rintro e w1 ⟨rfl, b1⟩
  have S1 := Lib.hid (((Stay.start w).next b1))
  clear b1
  cases hd : okD d with
  | false =>
    go_wp2_with fail
    refine (new_bad d hd _).mono ?_
    rintro e w' ⟨rfl, rfl⟩
    go_wp2
    go_ret
    exact ⟨rfl, S1.out.b⟩
  | true =>
    go_wp2_with fail
    refine (new_ok d hd _).mono ?_
    rintro e w2 ⟨rfl, c2, b2⟩
    have C2 := Lib.hid c2
    have S2 := Lib.hid (S1.out.next b2)
    have NK := Lib.hid S1.out.b.size
    generalize hk : w1.heap.size = k at *
    clear S1 b2 c2 hk
    cases ht : okT t with
    | false =>
      go_wp2_with fail
      refine (send_no k d 0 0 t 100 _ C2.out 1 (by unfold sndE; rw [ht]; rfl) (by decide)).mono ?_
      rintro e w' ⟨rfl, rfl⟩
      rcases okT_false ht with h1 | h1
      · go_wp2
        go_ret
        exact ⟨rfl, S2.out.b⟩
      · by_cases h2 : t < 0
        · omega
        · go_wp2
          go_ret
          exact ⟨rfl, S2.out.b⟩
    | true =>
      have HS := Lib.hid (snd100 ht)
      go_wp2_with fail
      refine (send0 k d 0 0 t 100 (t + 800) (t + 800 + d) _ C2.out hd HS.out (by rw [tim100]) rfl).mono ?_
      rintro e w3 ⟨rfl, c3, b3⟩
      have C3 := Lib.hid c3
      have S3 := Lib.hid (S2.out.b.trans (b3.below NK.out S2.out.b.size))
      have qt := okT_iff.1 ht
      clear c3 b3 C2 S2
      cases ha : okT a with
      | false =>
        go_wp2_with fail
        refine (free_bad k a ha _).mono ?_
        rintro e w' ⟨rfl, rfl⟩
        rcases okT_false ha with h1 | h1
        · go_wp2
          go_ret
          exact ⟨rfl, S3.out⟩
        · by_cases h2 : a < 0
          · omega
          · go_wp2
            go_ret
            exact ⟨rfl, S3.out⟩
      | true =>
        have qa := okT_iff.1 ha
        by_cases h1 : t ≤ a
        · by_cases h2 : a < t + 800
          · go_wp2_with fail
            refine (free0 k d t (t + 800) a (t + 800) _ C3.out ha (by unfold fr bsy; rw [decide_eq_true h1, decide_eq_true h2]; rfl)).mono ?_
            rintro e w' ⟨rfl, rfl⟩
            have q1 : a - t < 800 := by omega
            go_wp2_with (first | (go_at_call 16; refine (time_any _ _).mono ?_; rintro e w' ⟨rfl, hw⟩; obtain rfl := hw.symm; rw [tim100]))
            go_ret
            exact ⟨rfl, S3.out⟩
          · go_wp2_with fail
            refine (free0 k d t (t + 800) a a _ C3.out ha (by unfold fr bsy; rw [decide_eq_false (by omega : ¬ a < t + 800), Bool.and_false]; rfl)).mono ?_
            rintro e w' ⟨rfl, rfl⟩
            have q1 : ¬ a - t < 800 := by omega
            go_wp2_with (first | (go_at_call 16; refine (time_any _ _).mono ?_; rintro e w' ⟨rfl, hw⟩; obtain rfl := hw.symm; rw [tim100]))
            go_ret
            exact ⟨rfl, S3.out⟩
        · go_wp2_with fail
          refine (free0 k d t (t + 800) a a _ C3.out ha (by unfold fr bsy; rw [decide_eq_false (by omega : ¬ t ≤ a), Bool.false_and]; rfl)).mono ?_
          rintro e w' ⟨rfl, rfl⟩
          go_wp2
          go_ret
          exact ⟨rfl, S3.out⟩
set_option maxRecDepth 100000 in
/-- What the walk gives, for every argument and every world. -/
theorem contract (H : Type) (enc : TypeId × Value → H) (W : World) (base : Nat) (args : Array Value) (ds gs : List (DataW H)) (before : List MemPlace)
    (hval : ∀ (j : Nat) t v, Try.f7.params[j]? = some t → args[j]? = some v → Value.okWide Try.prog W .any base t v)
    (hW : DataW.Whole enc Try.prog Try.f7.params.toList Rows.wireBusySpec.vars false W args.toList ds gs before) : 
    Calls Try.prog 7 args W fun e W' => ∃ v, e = .returned v ∧ Rows.wireBusySpec.post enc Try.prog Try.f7 false true false false W args v W' := by
  have hW' := hW
  obtain ⟨p, q, hA0, hV, rfl, hfz, hnd⟩ := hW
  have hA : DataW.TrodAll enc Try.prog W 0 (fun _ => true) true Try.f7.params.toList args.toList ds p := hA0
  rw [Try.params7] at hA hval
  obtain ⟨v0, vs0, d0, ds0, p0, q0, hargs, rfl, rfl, h0, r0⟩ := trodAll_cons hA
  obtain ⟨v1, vs1, d1, ds1, p1, q1, rfl, rfl, rfl, h1, r1⟩ := trodAll_cons r0
  obtain ⟨v2, vs2, d2, ds2, p2, q2, rfl, rfl, rfl, h2, r2⟩ := trodAll_cons r1
  obtain ⟨rfl, rfl, rfl⟩ := trodAll_nil r2
  obtain rfl : args = #[v0, v1, v2] := by cases args; simp_all
  obtain ⟨rfl, rfl⟩ := trodVars_none hV
  obtain ⟨d, rfl, rfl, rfl, w0⟩ := open_int Try.underlying2 (hval 0 2 v0 rfl rfl) h0
  obtain ⟨t, rfl, rfl, rfl, w1⟩ := open_int Try.underlying2 (hval 1 2 v1 rfl rfl) h1
  obtain ⟨a, rfl, rfl, rfl, w2⟩ := open_int Try.underlying2 (hval 2 2 v2 rfl rfl) h2
  refine (walk d t a W).mono fun e W' ⟨he, hb⟩ => ?_
  exact ⟨_, he, Shell.post_law laidOut (by kernel_rfl) rfl Try.underlying4 rfl hW' rfl hb⟩
theorem reads (os : Os) {H : Type} (enc : TypeId × Value → H) : ∃ places, DataW.whole enc Try.prog ((World.holding Try.prog os ⟨#[], #[], []⟩).forCall (fun _ _ => 0) ⟨#[], #[.int .i64 0, .int .i64 0, .int .i64 0], []⟩).memory Try.f7.params.toList Rows.wireBusySpec.vars false (#[Value.int .i64 0, Value.int .i64 0, Value.int .i64 0]).toList 8 = some ([.lit (.int .i64 0), .lit (.int .i64 0), .lit (.int .i64 0)], [], places) :=
  ⟨[], by kernel_rfl⟩
set_option maxRecDepth 100000 in
theorem lifted (os : Os) (started : os.Started) (H : Type) (enc : TypeId × Value → H) (F : Stop.Interp) :
    ReturnsInHanded {} Try.checked os 7 .any ((OpenSpec.ofChange Rows.wireBusySpec).preRow enc Try.prog Try.f7 Rows.wireBusyRow.domain false Rows.wireBusyRow.laid) (((OpenSpec.ofChange Rows.wireBusySpec).at F).post enc Try.prog Try.f7 false true false false) := by
  obtain ⟨places, hx⟩ := reads os enc
  refine returnsInHanded_of_row (C := Try.checked) (s := OpenSpec.ofChange Rows.wireBusySpec) own started (by kernel_rfl) Try.func7
    (witness_row_atRef (enc := enc) (C := Try.checked) false (World.holding Try.prog os ⟨#[], #[], []⟩) #[.int .i64 0, .int .i64 0, .int .i64 0] rfl (by kernel_rfl) (by kernel_rfl) (by kernel_rfl)
      (OpenSpec.preRow_of_cond 8 hx (by kernel_rfl) (fun k hk => by cases hk) (by kernel_rfl) (laid_met os _))) ?_
  intro W base args ds gs before hval hW _ _ _ hL _ _
  exact contract H enc W base args ds gs before hval hW
theorem said : Rows.WireBusySaid :=
  OpenClaim.holds_of_cond 7 Try.f7 rfl rfl rfl rfl rfl rfl rfl ⟨rfl, rfl, rfl, rfl, rfl⟩ rfl rfl rfl rfl rfl (by kernel_rfl) Try.func7 (by kernel_rfl)
    (of_decide_eq_true (by kernel_rfl)) (by unfold Func.isWrapper; first | (rw [if_pos (by decide +kernel)]; kernel_rfl) | (rw [if_neg (by decide +kernel)]; exact ⟨rfl, rfl⟩))
    (fun os started H enc _ F => by rw [OpenClaim.pre_eq_preRow]; exact lifted os started H enc F)
end Go.Proofs.Ytkeigfkcoleboaa.WireW.WireBusy
