/- The law BucketBudgets: the budget is reckoned as the document says: for all numbers. No condition. -/
import Derived.Test.YtokddpialnkckaaBucketLay
import Derived.Test.YtokddpialnkckaaBucketB
namespace Go.Proofs.Ytokddpialnkckaa.BucketW.BucketBudgets
open Go.ChangeShapes Go.WideShapes Go.ChangeAt Go.RowKit BucketW Shell
set_option maxHeartbeats 4000000 in
set_option maxRecDepth 100000 in
theorem walk (g j d : Int) (w : World) :
    Calls Try.prog 7 #[.int .i64 g, .int .i64 j, .int .i64 d] w fun e w' => e = .returned (.bool true) ∧ Below w.heap.size w w' := by
  by_cases hb : rgt g j = true ∧ 0 ≤ d ∧ d ≤ 2251799813685248
  · obtain ⟨hr, d0, d1⟩ := hb
    obtain ⟨⟨g0, g1⟩, j0, j1⟩ := rgt_iff.1 hr
    have q0 : 0 ≤ (d + j) / g := Int.ediv_nonneg (by omega) (by omega)
    have q1 : (d + j) / g ≤ d + j := Int.ediv_le_self _ (by omega)
    have q2 : (d + j) / g * g ≤ d + j := Int.ediv_mul_le _ (by omega)
    have q3 : d + j < ((d + j) / g + 1) * g := Int.lt_ediv_add_one_mul_self _ g0
    have hB : bud g j d = 1 + (d + j) / g := by unfold bud; rw [if_pos ⟨hr, d0, d1⟩]
    generalize (d + j) / g = q at *
    have q4 : (q + 1) * g = q * g + g := by rw [Int.add_mul, Int.one_mul]
    have q5 : 0 ≤ q * g := Int.mul_nonneg q0 (by omega)
    rw [q4] at q3
    obtain ⟨N, hN⟩ : ∃ N, 1 + q = N := ⟨_, rfl⟩
    obtain ⟨P1, hP1⟩ : ∃ P, q * g = P := ⟨_, rfl⟩
    obtain ⟨P2, hP2⟩ : ∃ P, P1 + g = P := ⟨_, rfl⟩
    have a1 : wrap64 (N - 1) = q := by unfold wrap64; omega
    have a2 : wrap64 (q * g) = P1 := by rw [hP1]; unfold wrap64; omega
    have a3 : wrap64 (d + j) = d + j := by unfold wrap64; omega
    have a4 : wrap64 (N * g) = P2 := by rw [← hN, Int.add_comm, q4, hP1, hP2]; unfold wrap64; omega
    have a5 : 1 ≤ N := by omega
    have a6 : P1 ≤ d + j := by omega
    have a7 : d + j < P2 := by omega
    have a8 : ¬ d < 0 := by omega
    have a9 : ¬ 2251799813685248 < d := by omega
    have HB := Lib.hid (hB.trans hN)
    have HR := Lib.hid hr
    clear hB hr q0 q1 q2 q3 q4 q5 hN hP1 hP2 g0 g1 j0 j1 d0 d1
    go_enter Try.func7, Try.ntmps7
    go_wp2_with fail
    refine (fixed_any _).mono ?_
    rintro e w1 ⟨rfl, b1⟩
    have B1 := Lib.hid b1
    clear b1
    go_wp2_with fail
    refine (budget_any g j d _).mono ?_
    rintro e w' ⟨rfl, rfl⟩
    rw [HB.out]
    go_wp2_with fail
    refine (refRight_any g j _).mono ?_
    rintro e w' ⟨rfl, rfl⟩
    rw [HR.out]
    go_wp2
    go_ret
    exact ⟨rfl, B1.out⟩
  · have HB := Lib.hid (bud_no hb)
    go_enter Try.func7, Try.ntmps7
    go_wp2_with fail
    refine (fixed_any _).mono ?_
    rintro e w1 ⟨rfl, b1⟩
    have B1 := Lib.hid b1
    clear b1
    go_wp2_with fail
    refine (budget_any g j d _).mono ?_
    rintro e w' ⟨rfl, rfl⟩
    rw [HB.out]
    cases hr : rgt g j with
    | false =>
      go_wp2_with fail
      refine (refRight_any g j _).mono ?_
      rintro e w' ⟨rfl, rfl⟩
      rw [hr]
      go_wp2
      go_ret
      exact ⟨rfl, B1.out⟩
    | true =>
      by_cases h1 : d < 0
      · go_wp2_with fail
        refine (refRight_any g j _).mono ?_
        rintro e w' ⟨rfl, rfl⟩
        rw [hr]
        go_wp2
        go_ret
        exact ⟨rfl, B1.out⟩
      · have h2 : 2251799813685248 < d := by
          by_cases h2 : 2251799813685248 < d
          · exact h2
          · exact absurd ⟨hr, by omega, by omega⟩ hb
        go_wp2_with fail
        refine (refRight_any g j _).mono ?_
        rintro e w' ⟨rfl, rfl⟩
        rw [hr]
        go_wp2
        go_ret
        exact ⟨rfl, B1.out⟩
set_option maxRecDepth 100000 in
/-- What the walk gives, for every argument and every world. -/
theorem contract (H : Type) (enc : TypeId × Value → H) (W : World) (base : Nat) (args : Array Value) (ds gs : List (DataW H)) (before : List MemPlace)
    (hval : ∀ (j : Nat) t v, Try.f7.params[j]? = some t → args[j]? = some v → Value.okWide Try.prog W .any base t v)
    (hW : DataW.Whole enc Try.prog Try.f7.params.toList Rows.bucketBudgetsSpec.vars false W args.toList ds gs before) : 
    Calls Try.prog 7 args W fun e W' => ∃ v, e = .returned v ∧ Rows.bucketBudgetsSpec.post enc Try.prog Try.f7 false true false false W args v W' := by
  have hW' := hW
  obtain ⟨p, q, hA0, hV, rfl, hfz, hnd⟩ := hW
  have hA : DataW.TrodAll enc Try.prog W 0 (fun _ => true) true Try.f7.params.toList args.toList ds p := hA0
  rw [Try.params7] at hA hval
  obtain ⟨v0, vs0, d0, ds0, p0, q0, hargs, rfl, rfl, h0, r0⟩ := trodAll_cons hA
  obtain ⟨v1, vs1, d1, ds1, p1, q1, rfl, rfl, rfl, h1, r1⟩ := trodAll_cons r0
  obtain ⟨v2, vs2, d2, ds2, p2, q2, rfl, rfl, rfl, h2, r2⟩ := trodAll_cons r1
  obtain ⟨rfl, rfl, rfl⟩ := trodAll_nil r2
  obtain rfl : args = #[v0, v1, v2] := by cases args; simp_all
  obtain ⟨rfl, rfl⟩ := trodVars_none hV
  obtain ⟨g, rfl, rfl, rfl, w0⟩ := open_int Try.underlying2 (hval 0 2 v0 rfl rfl) h0
  obtain ⟨j, rfl, rfl, rfl, w1⟩ := open_int Try.underlying2 (hval 1 2 v1 rfl rfl) h1
  obtain ⟨d, rfl, rfl, rfl, w2⟩ := open_int Try.underlying2 (hval 2 2 v2 rfl rfl) h2
  refine (walk g j d W).mono fun e W' ⟨he, hb⟩ => ?_
  exact ⟨_, he, Shell.post_law laidOut (by kernel_rfl) rfl Try.underlying4 rfl hW' rfl hb⟩
theorem reads (os : Os) {H : Type} (enc : TypeId × Value → H) : ∃ places, DataW.whole enc Try.prog ((World.holding Try.prog os ⟨#[], #[], []⟩).forCall (fun _ _ => 0) ⟨#[], #[.int .i64 0, .int .i64 0, .int .i64 0], []⟩).memory Try.f7.params.toList Rows.bucketBudgetsSpec.vars false (#[Value.int .i64 0, Value.int .i64 0, Value.int .i64 0]).toList 8 = some ([.lit (.int .i64 0), .lit (.int .i64 0), .lit (.int .i64 0)], [], places) :=
  ⟨[], by kernel_rfl⟩
set_option maxRecDepth 100000 in
theorem lifted (os : Os) (started : os.Started) (H : Type) (enc : TypeId × Value → H) (F : Stop.Interp) :
    ReturnsInHanded {} Try.checked os 7 .any ((OpenSpec.ofChange Rows.bucketBudgetsSpec).preRow enc Try.prog Try.f7 Rows.bucketBudgetsRow.domain false Rows.bucketBudgetsRow.laid) (((OpenSpec.ofChange Rows.bucketBudgetsSpec).at F).post enc Try.prog Try.f7 false true false false) := by
  obtain ⟨places, hx⟩ := reads os enc
  refine returnsInHanded_of_row (C := Try.checked) (s := OpenSpec.ofChange Rows.bucketBudgetsSpec) own started (by kernel_rfl) Try.func7
    (witness_row_atRef (enc := enc) (C := Try.checked) false (World.holding Try.prog os ⟨#[], #[], []⟩) #[.int .i64 0, .int .i64 0, .int .i64 0] rfl (by kernel_rfl) (by kernel_rfl) (by kernel_rfl)
      (OpenSpec.preRow_of_cond 8 hx (by kernel_rfl) (fun k hk => by cases hk) (by kernel_rfl) (laid_met os _))) ?_
  intro W base args ds gs before hval hW _ _ _ hL _ _
  exact contract H enc W base args ds gs before hval hW
theorem said : Rows.BucketBudgetsSaid :=
  OpenClaim.holds_of_cond 7 Try.f7 rfl rfl rfl rfl rfl rfl rfl ⟨rfl, rfl, rfl, rfl, rfl⟩ rfl rfl rfl rfl rfl (by kernel_rfl) Try.func7 (by kernel_rfl)
    (of_decide_eq_true (by kernel_rfl)) (by unfold Func.isWrapper; first | (rw [if_pos (by decide +kernel)]; kernel_rfl) | (rw [if_neg (by decide +kernel)]; exact ⟨rfl, rfl⟩))
    (fun os started H enc _ F => by rw [OpenClaim.pre_eq_preRow]; exact lifted os started H enc F)
end Go.Proofs.Ytokddpialnkckaa.BucketW.BucketBudgets
