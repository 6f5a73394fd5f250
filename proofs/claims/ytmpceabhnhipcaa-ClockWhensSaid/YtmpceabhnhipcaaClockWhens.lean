/- The law ClockWhens: the time that is told for a number is the first one at which the clock shows it, or more: for all starts and numbers. No condition. -/
import Derived.Test.YtmpceabhnhipcaaClockLay
namespace Go.Proofs.Ytmpceabhnhipcaa.ClockW.ClockWhens
open Go.ChangeShapes Go.WideShapes Go.ChangeAt Go.RowKit TickW ClockW Shell
set_option maxHeartbeats 2000000 in
set_option maxRecDepth 100000 in
theorem walk (m b r n : Int) (_hn : -9223372036854775808 ≤ n ∧ n ≤ 9223372036854775807) (w : World) :
    Calls Try.prog 5 #[.agg #[.int .i64 m, .int .i64 b, .int .i64 r], .int .i64 n] w fun e w' => e = .returned (.bool true) ∧ Below w.heap.size w w' := by
  have S0 := (Stay.start w).alloc (arr3 m b r)
  go_enter Try.func5, Try.ntmps5
  go_wp2_with fail
  generalize w.alloc (Obj.cells #[.int .i64 m, .int .i64 b, .int .i64 r] 22) = W0 at *
  refine (fixed_any _).mono ?_
  rintro e w1 ⟨rfl, b1⟩
  have S1 := Lib.hid (S0.next b1)
  obtain ⟨a0, a1, a2⟩ := cells3 (S1.out.at 0 rfl)
  clear S0 b1
  cases ho : okN m b r with
  | false =>
    go_wp2_with fail
    refine (new_bad m b r ho _).mono ?_
    rintro e w' ⟨rfl, rfl⟩
    go_wp2
    go_ret
    exact ⟨rfl, S1.out.b⟩
  | true =>
    have hci := Lib.hid (okN_iff.1 ho).1
    have m0 := hci.out.m0
    have m1 := hci.out.m1
    go_wp2_with fail
    refine (new_ok m b r ho _).mono ?_
    rintro e w2 ⟨rfl, c2, b2⟩
    have S2 := Lib.hid ((S1.out.next b2).add (o := ck m b r) c2)
    generalize hk : w1.heap.size = k at *
    clear S1 a0 a1 a2 b2 c2 hk
    obtain ⟨a0, a1, a2⟩ := cells3 (S2.out.at 1 rfl)
    by_cases h1 : n ≤ b
    · have T1 : tell m m = true := tell_iff.2 ⟨⟨by omega, hci.out.m1⟩, by omega⟩
      have T2 : tell m (m - 1) = false := by
        cases h : tell m (m - 1) with
        | false => rfl
        | true => have := (tell_iff.1 h).2; omega
      go_wp2_with fail
      refine (when_low k m b r n _ (S2.out.at 0 rfl) h1).mono ?_
      rintro e w' ⟨rfl, rfl⟩
      go_wp2_with fail
      refine (now_ok k m b r m _ (S2.out.at 0 rfl) hci.out T1).mono ?_
      rw [sh_start]
      rintro e w3 ⟨rfl, b3⟩
      have S3 := Lib.hid (S2.out.next b3)
      clear a0 a1 a2 b3 S2
      obtain ⟨a0, a1, a2⟩ := cells3 (S3.out.at 1 rfl)
      go_wp2_with fail
      refine (now_bad k m b r (m - 1) _ (S3.out.at 0 rfl) T2).mono ?_
      rintro e w' ⟨rfl, rfl⟩
      go_wp2
      go_ret
      exact ⟨rfl, S3.out.b⟩
    · by_cases h2 : sh m b r 1125899906842624 < n
      · have T1 : tell m 1125899906842624 = true := tell_iff.2 ⟨⟨by omega, by omega⟩, m1⟩
        generalize hz : sh m b r 1125899906842624 = z at *
        have HZ := Lib.hid hz
        have HN := Lib.hid (show sh m b r 1125899906842624 < n by rw [hz]; exact h2)
        clear hz
        go_wp2_with fail
        refine (when_none k m b r n _ (S2.out.at 0 rfl) hci.out (Int.not_le.2 h1) HN.out).mono ?_
        rintro e w3 ⟨rfl, b3⟩
        have S3 := Lib.hid (S2.out.next b3)
        clear a0 a1 a2 b3 S2
        obtain ⟨a0, a1, a2⟩ := cells3 (S3.out.at 1 rfl)
        go_wp2_with fail
        refine (now_ok k m b r 1125899906842624 _ (S3.out.at 0 rfl) hci.out T1).mono ?_
        rw [HZ.out]
        rintro e w4 ⟨rfl, b4⟩
        have S4 := Lib.hid (S3.out.next b4)
        go_wp2
        go_ret
        exact ⟨rfl, S4.out.b⟩
      · have u1 := wh_last (m := m) hci.out.r0 (Int.not_le.1 h1) (Int.not_lt.1 h2)
        obtain ⟨-, u2, u3, u4⟩ := wh_high (m := m) hci.out.r0 (Int.not_le.1 h1)
        have HN := Lib.hid h2
        clear h2
        generalize hu : wh m b r n = u at *
        have HU := Lib.hid hu
        have T1 : tell m u = true := tell_iff.2 ⟨⟨by omega, by omega⟩, by omega⟩
        have T2 : tell m (u - 1) = true := tell_iff.2 ⟨⟨by omega, by omega⟩, by omega⟩
        have q1 := sh_range hci.out (t := u) (by omega) (by omega)
        have q2 := sh_range hci.out (t := u - 1) (by omega) (by omega)
        generalize hz : sh m b r u = z at *
        generalize hy : sh m b r (u - 1) = y at *
        have HZ := Lib.hid hz
        have HY := Lib.hid hy
        clear hz hy hu
        go_wp2_with fail
        refine (when_ok k m b r n _ (S2.out.at 0 rfl) hci.out (Int.not_le.2 h1) (Int.not_lt.2 HN.out)).mono ?_
        rw [HU.out]
        rintro e w3 ⟨rfl, b3⟩
        have S3 := Lib.hid (S2.out.next b3)
        clear a0 a1 a2 b3 S2
        obtain ⟨a0, a1, a2⟩ := cells3 (S3.out.at 1 rfl)
        go_wp2_with fail
        refine (now_ok k m b r u _ (S3.out.at 0 rfl) hci.out T1).mono ?_
        rw [HZ.out]
        rintro e w4 ⟨rfl, b4⟩
        have S4 := Lib.hid (S3.out.next b4)
        clear a0 a1 a2 b4 S3
        obtain ⟨a0, a1, a2⟩ := cells3 (S4.out.at 1 rfl)
        go_wp2_with fail
        refine (now_ok k m b r (u - 1) _ (S4.out.at 0 rfl) hci.out T2).mono ?_
        rw [HY.out]
        rintro e w5 ⟨rfl, b5⟩
        have S5 := Lib.hid (S4.out.next b5)
        clear a0 a1 a2 b5 S4
        obtain ⟨a0, a1, a2⟩ := cells3 (S5.out.at 1 rfl)
        go_wp2
        go_ret
        exact ⟨rfl, S5.out.b⟩
set_option maxRecDepth 100000 in
/-- What the walk gives, for every argument and every world. -/
theorem contract (H : Type) (enc : TypeId × Value → H) (W : World) (base : Nat) (args : Array Value) (ds gs : List (DataW H)) (before : List MemPlace)
    (hval : ∀ (j : Nat) t v, Try.f5.params[j]? = some t → args[j]? = some v → Value.okWide Try.prog W .any base t v)
    (hW : DataW.Whole enc Try.prog Try.f5.params.toList Rows.clockWhensSpec.vars false W args.toList ds gs before) : 
    Calls Try.prog 5 args W fun e W' => ∃ v, e = .returned v ∧ Rows.clockWhensSpec.post enc Try.prog Try.f5 false true false false W args v W' := by
  have hW' := hW
  obtain ⟨p, q, hA0, hV, rfl, hfz, hnd⟩ := hW
  have hA : DataW.TrodAll enc Try.prog W 0 (fun _ => true) true Try.f5.params.toList args.toList ds p := hA0
  rw [Try.params5] at hA hval
  obtain ⟨v0, vs0, d0, ds0, p0, q0, hargs, rfl, rfl, h0, r0⟩ := trodAll_cons hA
  obtain ⟨v1, vs1, d1, ds1, p1, q1, rfl, rfl, rfl, h1, r1⟩ := trodAll_cons r0
  obtain ⟨rfl, rfl, rfl⟩ := trodAll_nil r1
  obtain rfl : args = #[v0, v1] := by cases args; simp_all
  obtain ⟨rfl, rfl⟩ := trodVars_none hV
  obtain ⟨l0, rfl, hl0, w0⟩ := open_array Try.underlying22 Try.underlying2 (by kernel_rfl) (by kernel_rfl) (hval 0 22 v0 rfl rfl) h0
  obtain ⟨s0, s1, s2, rfl⟩ := len3 hl0
  have s0w := i64_wf (w0 s0 (by simp))
  have s1w := i64_wf (w0 s1 (by simp))
  have s2w := i64_wf (w0 s2 (by simp))
  obtain ⟨n, rfl, rfl, rfl, w1⟩ := open_int Try.underlying2 (hval 1 2 v1 rfl rfl) h1
  refine (walk s0 s1 s2 n (i64_wf w1) W).mono fun e W' ⟨he, hb⟩ => ?_
  exact ⟨_, he, Shell.post_law laidOut (by kernel_rfl) rfl Try.underlying4 rfl hW' rfl hb⟩
theorem reads (os : Os) {H : Type} (enc : TypeId × Value → H) : ∃ places, DataW.whole enc Try.prog ((World.holding Try.prog os ⟨#[], #[], []⟩).forCall (fun _ _ => 0) ⟨#[], #[.agg #[.int .i64 0, .int .i64 0, .int .i64 0], .int .i64 0], []⟩).memory Try.f5.params.toList Rows.clockWhensSpec.vars false (#[Value.agg #[.int .i64 0, .int .i64 0, .int .i64 0], Value.int .i64 0]).toList 8 = some ([.agg [.lit (.int .i64 0), .lit (.int .i64 0), .lit (.int .i64 0)], .lit (.int .i64 0)], [], places) :=
  ⟨[], by kernel_rfl⟩
set_option maxRecDepth 100000 in
theorem lifted (os : Os) (started : os.Started) (H : Type) (enc : TypeId × Value → H) (F : Stop.Interp) :
    ReturnsInHanded {} Try.checked os 5 .any ((OpenSpec.ofChange Rows.clockWhensSpec).preRow enc Try.prog Try.f5 Rows.clockWhensRow.domain false Rows.clockWhensRow.laid) (((OpenSpec.ofChange Rows.clockWhensSpec).at F).post enc Try.prog Try.f5 false true false false) := by
  obtain ⟨places, hx⟩ := reads os enc
  refine returnsInHanded_of_row (C := Try.checked) (s := OpenSpec.ofChange Rows.clockWhensSpec) own started (by kernel_rfl) Try.func5
    (witness_row_atRef (enc := enc) (C := Try.checked) false (World.holding Try.prog os ⟨#[], #[], []⟩) #[.agg #[.int .i64 0, .int .i64 0, .int .i64 0], .int .i64 0] rfl (by kernel_rfl) (by kernel_rfl) (by kernel_rfl)
      (OpenSpec.preRow_of_cond 8 hx (by kernel_rfl) (fun k hk => by cases hk) (by kernel_rfl) (laid_met os _))) ?_
  intro W base args ds gs before hval hW _ _ _ hL _ _
  exact contract H enc W base args ds gs before hval hW
theorem said : Rows.ClockWhensSaid :=
  OpenClaim.holds_of_cond 5 Try.f5 rfl rfl rfl rfl rfl rfl rfl ⟨rfl, rfl, rfl, rfl, rfl⟩ rfl rfl rfl rfl rfl (by kernel_rfl) Try.func5 (by kernel_rfl)
    (of_decide_eq_true (by kernel_rfl)) (by unfold Func.isWrapper; first | (rw [if_pos (by decide +kernel)]; kernel_rfl) | (rw [if_neg (by decide +kernel)]; exact ⟨rfl, rfl⟩))
    (fun os started H enc _ F => by rw [OpenClaim.pre_eq_preRow]; exact lifted os started H enc F)
end Go.Proofs.Ytmpceabhnhipcaa.ClockW.ClockWhens
