/- The law ClockSets: a clock that was set shows that, and goes on from there by its rate as a new one would: for all starts and all settings. No condition. -/
import Derived.Test.YtmpceabhnhipcaaClockLay
namespace Go.Proofs.Ytmpceabhnhipcaa.ClockW.ClockSets
open Go.ChangeShapes Go.WideShapes Go.ChangeAt Go.RowKit TickW ClockW Shell
set_option maxHeartbeats 2000000 in
set_option maxRecDepth 100000 in
theorem walk (m b r t b' t2 : Int) (w : World) :
    Calls Try.prog 8 #[.agg #[.int .i64 m, .int .i64 b, .int .i64 r], .agg #[.int .i64 t, .int .i64 b', .int .i64 t2]] w fun e w' => e = .returned (.bool true) ∧ Below w.heap.size w w' := by
  have S0 := ((Stay.start w).alloc (arr3 m b r)).alloc (arr3 t b' t2)
  rw [show (w.alloc (arr3 m b r)).heap.size = w.heap.size + 1 by simp] at S0
  go_enter Try.func8, Try.ntmps8
  go_wp2_with fail
  generalize (w.alloc (Obj.cells #[.int .i64 m, .int .i64 b, .int .i64 r] 22)).alloc (Obj.cells #[.int .i64 t, .int .i64 b', .int .i64 t2] 22) = W0 at *
  refine (fixed_any _).mono ?_
  rintro e w1 ⟨rfl, b1⟩
  have S1 := Lib.hid (S0.next b1)
  obtain ⟨a0, a1, a2⟩ := cells3 (S1.out.at 1 rfl)
  obtain ⟨d0, d1, d2⟩ := cells3 (S1.out.at 0 rfl)
  clear S0 b1
  cases ho : okN m b r with
  | false =>
    go_wp2_with fail
    refine (new_bad m b r ho _).mono ?_
    rintro e w' ⟨rfl, rfl⟩
    go_wp2
    go_ret
    exact ⟨rfl, S1.out.b⟩
  | true =>
    go_wp2_with fail
    refine (new_ok m b r ho _).mono ?_
    rintro e w2 ⟨rfl, c2, b2⟩
    have S2 := Lib.hid ((S1.out.next b2).add (o := ck m b r) c2)
    have NK := Lib.hid (show w.heap.size + 1 < w1.heap.size from lt_of_heap (S1.out.at 0 rfl))
    generalize hk : w1.heap.size = k at *
    clear S1 a0 a1 a2 d0 d1 d2 b2 c2 hk
    obtain ⟨a0, a1, a2⟩ := cells3 (S2.out.at 2 rfl)
    obtain ⟨d0, d1, d2⟩ := cells3 (S2.out.at 1 rfl)
    cases ht : (tell m t && okB b') with
    | false =>
      go_wp2_with fail
      refine (set_bad k m b r t b' _ (S2.out.at 0 rfl) ht).mono ?_
      rintro e w' ⟨rfl, rfl⟩
      go_wp2
      go_ret
      exact ⟨rfl, S2.out.b⟩
    | true =>
      obtain ⟨h1, h2⟩ := Bool.and_eq_true_iff.1 ht
      have hci := (okN_iff.1 ho).1
      have htt := tell_iff.1 h1
      have ho2 : okN t b' r = true := okN_iff.2 ⟨⟨htt.1.1, htt.1.2, (okB_iff.1 h2).1, by have := (okB_iff.1 h2).2; omega, hci.r0, hci.r1⟩, h2⟩
      have hcj := Lib.hid (okN_iff.1 ho2).1
      have htm : tell t t = true := tell_iff.2 ⟨htt.1, Int.le_refl _⟩
      clear htt hci ht
      go_wp2_with fail
      refine (set_ok k m b r t b' _ (S2.out.at 0 rfl) h1 h2).mono ?_
      rintro e w3 ⟨rfl, c3, b3⟩
      have S3 := Lib.hid (S2.out.turn b3 (o' := ck t b' r) c3 (by have := NK.out; omega) (by have := NK.out; simp; omega))
      clear a0 a1 a2 d0 d1 d2 b3 c3 S2
      obtain ⟨a0, a1, a2⟩ := cells3 (S3.out.at 2 rfl)
      obtain ⟨d0, d1, d2⟩ := cells3 (S3.out.at 1 rfl)
      go_wp2_with fail
      refine (new_ok t b' r ho2 _).mono ?_
      rintro e w4 ⟨rfl, c4, b4⟩
      have S4 := Lib.hid ((S3.out.next b4).add (o := ck t b' r) c4)
      generalize hj : w3.heap.size = j at *
      clear a0 a1 a2 d0 d1 d2 b4 c4 S3 hj
      obtain ⟨a0, a1, a2⟩ := cells3 (S4.out.at 3 rfl)
      obtain ⟨d0, d1, d2⟩ := cells3 (S4.out.at 2 rfl)
      go_wp2_with fail
      refine (now_ok k t b' r t _ (S4.out.at 1 rfl) hcj.out htm).mono ?_
      rw [sh_start]
      rintro e w5 ⟨rfl, b5⟩
      have S5 := Lib.hid (S4.out.next b5)
      clear a0 a1 a2 d0 d1 d2 b5 S4
      obtain ⟨a0, a1, a2⟩ := cells3 (S5.out.at 3 rfl)
      obtain ⟨d0, d1, d2⟩ := cells3 (S5.out.at 2 rfl)
      cases hn : tell t t2 with
      | false =>
        go_wp2_with fail
        refine (now_bad k t b' r t2 _ (S5.out.at 1 rfl) hn).mono ?_
        rintro e w' ⟨rfl, rfl⟩
        go_wp2_with fail
        refine (now_bad j t b' r t2 _ (S5.out.at 0 rfl) hn).mono ?_
        rintro e w' ⟨rfl, rfl⟩
        go_wp2
        go_ret
        exact ⟨rfl, S5.out.b⟩
      | true =>
        go_wp2_with fail
        refine (now_ok k t b' r t2 _ (S5.out.at 1 rfl) hcj.out hn).mono ?_
        generalize hz : sh t b' r t2 = z
        have HZ := Lib.hid hz
        clear hz
        rintro e w6 ⟨rfl, b6⟩
        have S6 := Lib.hid (S5.out.next b6)
        clear a0 a1 a2 d0 d1 d2 b6 S5
        obtain ⟨a0, a1, a2⟩ := cells3 (S6.out.at 3 rfl)
        obtain ⟨d0, d1, d2⟩ := cells3 (S6.out.at 2 rfl)
        go_wp2_with fail
        refine (now_ok j t b' r t2 _ (S6.out.at 0 rfl) hcj.out hn).mono ?_
        rw [HZ.out]
        rintro e w7 ⟨rfl, b7⟩
        have S7 := Lib.hid (S6.out.next b7)
        go_wp2
        go_ret
        exact ⟨rfl, S7.out.b⟩
set_option maxRecDepth 100000 in
/-- What the walk gives, for every argument and every world. -/
theorem contract (H : Type) (enc : TypeId × Value → H) (W : World) (base : Nat) (args : Array Value) (ds gs : List (DataW H)) (before : List MemPlace)
    (hval : ∀ (j : Nat) t v, Try.f8.params[j]? = some t → args[j]? = some v → Value.okWide Try.prog W .any base t v)
    (hW : DataW.Whole enc Try.prog Try.f8.params.toList Rows.clockSetsSpec.vars false W args.toList ds gs before) : 
    Calls Try.prog 8 args W fun e W' => ∃ v, e = .returned v ∧ Rows.clockSetsSpec.post enc Try.prog Try.f8 false true false false W args v W' := by
  have hW' := hW
  obtain ⟨p, q, hA0, hV, rfl, hfz, hnd⟩ := hW
  have hA : DataW.TrodAll enc Try.prog W 0 (fun _ => true) true Try.f8.params.toList args.toList ds p := hA0
  rw [Try.params8] at hA hval
  obtain ⟨v0, vs0, d0, ds0, p0, q0, hargs, rfl, rfl, h0, r0⟩ := trodAll_cons hA
  obtain ⟨v1, vs1, d1, ds1, p1, q1, rfl, rfl, rfl, h1, r1⟩ := trodAll_cons r0
  obtain ⟨rfl, rfl, rfl⟩ := trodAll_nil r1
  obtain rfl : args = #[v0, v1] := by cases args; simp_all
  obtain ⟨rfl, rfl⟩ := trodVars_none hV
  obtain ⟨l0, rfl, hl0, w0⟩ := open_array Try.underlying22 Try.underlying2 (by kernel_rfl) (by kernel_rfl) (hval 0 22 v0 rfl rfl) h0
  obtain ⟨s0, s1, s2, rfl⟩ := len3 hl0
  have s0w := i64_wf (w0 s0 (by simp))
  have s1w := i64_wf (w0 s1 (by simp))
  have s2w := i64_wf (w0 s2 (by simp))
  obtain ⟨l1, rfl, hl1, w1⟩ := open_array Try.underlying22 Try.underlying2 (by kernel_rfl) (by kernel_rfl) (hval 1 22 v1 rfl rfl) h1
  obtain ⟨a0, a1, a2, rfl⟩ := len3 hl1
  have a0w := i64_wf (w1 a0 (by simp))
  have a1w := i64_wf (w1 a1 (by simp))
  have a2w := i64_wf (w1 a2 (by simp))
  refine (walk s0 s1 s2 a0 a1 a2 W).mono fun e W' ⟨he, hb⟩ => ?_
  exact ⟨_, he, Shell.post_law laidOut (by kernel_rfl) rfl Try.underlying4 rfl hW' rfl hb⟩
theorem reads (os : Os) {H : Type} (enc : TypeId × Value → H) : ∃ places, DataW.whole enc Try.prog ((World.holding Try.prog os ⟨#[], #[], []⟩).forCall (fun _ _ => 0) ⟨#[], #[.agg #[.int .i64 0, .int .i64 0, .int .i64 0], .agg #[.int .i64 0, .int .i64 0, .int .i64 0]], []⟩).memory Try.f8.params.toList Rows.clockSetsSpec.vars false (#[Value.agg #[.int .i64 0, .int .i64 0, .int .i64 0], Value.agg #[.int .i64 0, .int .i64 0, .int .i64 0]]).toList 8 = some ([.agg [.lit (.int .i64 0), .lit (.int .i64 0), .lit (.int .i64 0)], .agg [.lit (.int .i64 0), .lit (.int .i64 0), .lit (.int .i64 0)]], [], places) :=
  ⟨[], by kernel_rfl⟩
set_option maxRecDepth 100000 in
theorem lifted (os : Os) (started : os.Started) (H : Type) (enc : TypeId × Value → H) (F : Stop.Interp) :
    ReturnsInHanded {} Try.checked os 8 .any ((OpenSpec.ofChange Rows.clockSetsSpec).preRow enc Try.prog Try.f8 Rows.clockSetsRow.domain false Rows.clockSetsRow.laid) (((OpenSpec.ofChange Rows.clockSetsSpec).at F).post enc Try.prog Try.f8 false true false false) := by
  obtain ⟨places, hx⟩ := reads os enc
  refine returnsInHanded_of_row (C := Try.checked) (s := OpenSpec.ofChange Rows.clockSetsSpec) own started (by kernel_rfl) Try.func8
    (witness_row_atRef (enc := enc) (C := Try.checked) false (World.holding Try.prog os ⟨#[], #[], []⟩) #[.agg #[.int .i64 0, .int .i64 0, .int .i64 0], .agg #[.int .i64 0, .int .i64 0, .int .i64 0]] rfl (by kernel_rfl) (by kernel_rfl) (by kernel_rfl)
      (OpenSpec.preRow_of_cond 8 hx (by kernel_rfl) (fun k hk => by cases hk) (by kernel_rfl) (laid_met os _))) ?_
  intro W base args ds gs before hval hW _ _ _ hL _ _
  exact contract H enc W base args ds gs before hval hW
theorem said : Rows.ClockSetsSaid :=
  OpenClaim.holds_of_cond 8 Try.f8 rfl rfl rfl rfl rfl rfl rfl ⟨rfl, rfl, rfl, rfl, rfl⟩ rfl rfl rfl rfl rfl (by kernel_rfl) Try.func8 (by kernel_rfl)
    (of_decide_eq_true (by kernel_rfl)) (by unfold Func.isWrapper; first | (rw [if_pos (by decide +kernel)]; kernel_rfl) | (rw [if_neg (by decide +kernel)]; exact ⟨rfl, rfl⟩))
    (fun os started H enc _ F => by rw [OpenClaim.pre_eq_preRow]; exact lifted os started H enc F)
end Go.Proofs.Ytmpceabhnhipcaa.ClockW.ClockSets
