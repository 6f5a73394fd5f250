/- The law ClockOnwards: between settings a clock never goes back, and each nanosecond brings it on by 0, 1 or 2: for all starts and times. No condition. -/
import Derived.Test.YtmpceabhnhipcaaClockLay
namespace Go.Proofs.Ytmpceabhnhipcaa.ClockW.ClockOnwards
open Go.ChangeShapes Go.WideShapes Go.ChangeAt Go.RowKit TickW ClockW Shell
set_option maxHeartbeats 2000000 in
set_option maxRecDepth 100000 in
theorem walk (m b r t : Int) (ht : -9223372036854775808 ≤ t ∧ t ≤ 9223372036854775807) (w : World) :
    Calls Try.prog 4 #[.agg #[.int .i64 m, .int .i64 b, .int .i64 r], .int .i64 t] w fun e w' => e = .returned (.bool true) ∧ Below w.heap.size w w' := by
  have S0 := (Stay.start w).alloc (arr3 m b r)
  go_enter Try.func4, Try.ntmps4
  go_wp2_with fail
  generalize w.alloc (Obj.cells #[.int .i64 m, .int .i64 b, .int .i64 r] 22) = W0 at *
  refine (fixed_any _).mono ?_
  rintro e w1 ⟨rfl, b1⟩
  have S1 := Lib.hid (S0.next b1)
  obtain ⟨a0, a1, a2⟩ := cells3 (S1.out.at 0 rfl)
  clear S0 b1
  cases ho : okN m b r with
  | false =>
    go_wp2_with fail
    refine (new_bad m b r ho _).mono ?_
    rintro e w' ⟨rfl, rfl⟩
    go_wp2
    go_ret
    exact ⟨rfl, S1.out.b⟩
  | true =>
    have hci := Lib.hid (okN_iff.1 ho).1
    go_wp2_with fail
    refine (new_ok m b r ho _).mono ?_
    rintro e w2 ⟨rfl, c2, b2⟩
    have S2 := Lib.hid ((S1.out.next b2).add (o := ck m b r) c2)
    generalize hk : w1.heap.size = k at *
    clear S1 a0 a1 a2 b2 c2 hk
    obtain ⟨a0, a1, a2⟩ := cells3 (S2.out.at 1 rfl)
    by_cases h1 : t < m
    · go_wp2
      go_ret
      exact ⟨rfl, S2.out.b⟩
    · by_cases h2 : 1125899906842624 ≤ t
      · go_wp2
        go_ret
        exact ⟨rfl, S2.out.b⟩
      · have m0 := hci.out.m0
        have T1 := Lib.hid (show tell m t = true from tell_iff.2 ⟨⟨by omega, by omega⟩, by omega⟩)
        have T2 := Lib.hid (show tell m (t + 1) = true from tell_iff.2 ⟨⟨by omega, by omega⟩, by omega⟩)
        have T3 := Lib.hid (show tell m m = true from tell_iff.2 ⟨⟨by omega, hci.out.m1⟩, by omega⟩)
        have q1 := sh_step (m := m) (b := b) (t := t) hci.out.r0 hci.out.r1
        have q2 := sh_bounds hci.out (t := t) (by omega)
        have q3 := sh_range hci.out (t := t) (by omega) (by omega)
        have q4 := sh_range hci.out (t := t + 1) (by omega) (by omega)
        generalize hz : sh m b r t = z at *
        generalize hy : sh m b r (t + 1) = y at *
        have HZ := Lib.hid hz
        have HY := Lib.hid hy
        have q5 := q2.1
        clear hz hy q2
        go_wp2_with fail
        refine (now_ok k m b r t _ (S2.out.at 0 rfl) hci.out T1.out).mono ?_
        rw [HZ.out]
        rintro e w3 ⟨rfl, b3⟩
        have S3 := Lib.hid (S2.out.next b3)
        clear a0 a1 a2 b3 S2
        obtain ⟨a0, a1, a2⟩ := cells3 (S3.out.at 1 rfl)
        go_wp2_with fail
        refine (now_ok k m b r (t + 1) _ (S3.out.at 0 rfl) hci.out T2.out).mono ?_
        rw [HY.out]
        rintro e w4 ⟨rfl, b4⟩
        have S4 := Lib.hid (S3.out.next b4)
        clear a0 a1 a2 b4 S3
        obtain ⟨a0, a1, a2⟩ := cells3 (S4.out.at 1 rfl)
        go_wp2_with fail
        refine (now_ok k m b r m _ (S4.out.at 0 rfl) hci.out T3.out).mono ?_
        rw [sh_start]
        rintro e w5 ⟨rfl, b5⟩
        have S5 := Lib.hid (S4.out.next b5)
        clear a0 a1 a2 b5 S4
        obtain ⟨a0, a1, a2⟩ := cells3 (S5.out.at 1 rfl)
        go_wp2
        go_ret
        exact ⟨rfl, S5.out.b⟩
set_option maxRecDepth 100000 in
/-- What the walk gives, for every argument and every world. -/
theorem contract (H : Type) (enc : TypeId × Value → H) (W : World) (base : Nat) (args : Array Value) (ds gs : List (DataW H)) (before : List MemPlace)
    (hval : ∀ (j : Nat) t v, Try.f4.params[j]? = some t → args[j]? = some v → Value.okWide Try.prog W .any base t v)
    (hW : DataW.Whole enc Try.prog Try.f4.params.toList Rows.clockOnwardsSpec.vars false W args.toList ds gs before) : 
    Calls Try.prog 4 args W fun e W' => ∃ v, e = .returned v ∧ Rows.clockOnwardsSpec.post enc Try.prog Try.f4 false true false false W args v W' := by
  have hW' := hW
  obtain ⟨p, q, hA0, hV, rfl, hfz, hnd⟩ := hW
  have hA : DataW.TrodAll enc Try.prog W 0 (fun _ => true) true Try.f4.params.toList args.toList ds p := hA0
  rw [Try.params4] at hA hval
  obtain ⟨v0, vs0, d0, ds0, p0, q0, hargs, rfl, rfl, h0, r0⟩ := trodAll_cons hA
  obtain ⟨v1, vs1, d1, ds1, p1, q1, rfl, rfl, rfl, h1, r1⟩ := trodAll_cons r0
  obtain ⟨rfl, rfl, rfl⟩ := trodAll_nil r1
  obtain rfl : args = #[v0, v1] := by cases args; simp_all
  obtain ⟨rfl, rfl⟩ := trodVars_none hV
  obtain ⟨l0, rfl, hl0, w0⟩ := open_array Try.underlying22 Try.underlying2 (by kernel_rfl) (by kernel_rfl) (hval 0 22 v0 rfl rfl) h0
  obtain ⟨s0, s1, s2, rfl⟩ := len3 hl0
  have s0w := i64_wf (w0 s0 (by simp))
  have s1w := i64_wf (w0 s1 (by simp))
  have s2w := i64_wf (w0 s2 (by simp))
  obtain ⟨t, rfl, rfl, rfl, w1⟩ := open_int Try.underlying2 (hval 1 2 v1 rfl rfl) h1
  refine (walk s0 s1 s2 t (i64_wf w1) W).mono fun e W' ⟨he, hb⟩ => ?_
  exact ⟨_, he, Shell.post_law laidOut (by kernel_rfl) rfl Try.underlying4 rfl hW' rfl hb⟩
theorem reads (os : Os) {H : Type} (enc : TypeId × Value → H) : ∃ places, DataW.whole enc Try.prog ((World.holding Try.prog os ⟨#[], #[], []⟩).forCall (fun _ _ => 0) ⟨#[], #[.agg #[.int .i64 0, .int .i64 0, .int .i64 0], .int .i64 0], []⟩).memory Try.f4.params.toList Rows.clockOnwardsSpec.vars false (#[Value.agg #[.int .i64 0, .int .i64 0, .int .i64 0], Value.int .i64 0]).toList 8 = some ([.agg [.lit (.int .i64 0), .lit (.int .i64 0), .lit (.int .i64 0)], .lit (.int .i64 0)], [], places) :=
  ⟨[], by kernel_rfl⟩
set_option maxRecDepth 100000 in
theorem lifted (os : Os) (started : os.Started) (H : Type) (enc : TypeId × Value → H) (F : Stop.Interp) :
    ReturnsInHanded {} Try.checked os 4 .any ((OpenSpec.ofChange Rows.clockOnwardsSpec).preRow enc Try.prog Try.f4 Rows.clockOnwardsRow.domain false Rows.clockOnwardsRow.laid) (((OpenSpec.ofChange Rows.clockOnwardsSpec).at F).post enc Try.prog Try.f4 false true false false) := by
  obtain ⟨places, hx⟩ := reads os enc
  refine returnsInHanded_of_row (C := Try.checked) (s := OpenSpec.ofChange Rows.clockOnwardsSpec) own started (by kernel_rfl) Try.func4
    (witness_row_atRef (enc := enc) (C := Try.checked) false (World.holding Try.prog os ⟨#[], #[], []⟩) #[.agg #[.int .i64 0, .int .i64 0, .int .i64 0], .int .i64 0] rfl (by kernel_rfl) (by kernel_rfl) (by kernel_rfl)
      (OpenSpec.preRow_of_cond 8 hx (by kernel_rfl) (fun k hk => by cases hk) (by kernel_rfl) (laid_met os _))) ?_
  intro W base args ds gs before hval hW _ _ _ hL _ _
  exact contract H enc W base args ds gs before hval hW
theorem said : Rows.ClockOnwardsSaid :=
  OpenClaim.holds_of_cond 4 Try.f4 rfl rfl rfl rfl rfl rfl rfl ⟨rfl, rfl, rfl, rfl, rfl⟩ rfl rfl rfl rfl rfl (by kernel_rfl) Try.func4 (by kernel_rfl)
    (of_decide_eq_true (by kernel_rfl)) (by unfold Func.isWrapper; first | (rw [if_pos (by decide +kernel)]; kernel_rfl) | (rw [if_neg (by decide +kernel)]; exact ⟨rfl, rfl⟩))
    (fun os started H enc _ F => by rw [OpenClaim.pre_eq_preRow]; exact lifted os started H enc F)
end Go.Proofs.Ytmpceabhnhipcaa.ClockW.ClockOnwards
