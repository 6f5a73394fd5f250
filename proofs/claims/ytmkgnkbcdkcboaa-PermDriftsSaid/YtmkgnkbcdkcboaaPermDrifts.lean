/- The law PermDrifts: with any rate a frame is permanent no further from the right time than the rate brings in twice the delay, and two nanoseconds: for all delays, rates and times. No condition. -/
import Derived.Test.YtmkgnkbcdkcboaaPermFixed
import Derived.Test.YtmkgnkbcdkcboaaPermQ
namespace Go.Proofs.Ytmkgnkbcdkcboaa.PermW.PermDrifts
open Go.ChangeShapes Go.WideShapes Go.ChangeAt Go.RowKit PermW Shell
open ClockW (CK CI tell tell_iff sh wh okN okN_iff)
abbrev arr2 (x y : Int) : Obj := .cells #[.int .i64 x, .int .i64 y] 59 (0, 0)
abbrev ck (m b r : Int) : Obj := .cells #[.int .i64 m, .int .i64 b, .int .i64 r] 71 (0, 0)
theorem cells2 {w : World} {j : Nat} {x y : Value} {t : TypeId} (h : w.heap[j]? = some (.cells #[x, y] t (0, 0))) : w.cell? ⟨j, 0, none⟩ = some x ∧ w.cell? ⟨j, 1, none⟩ = some y :=
  ⟨cell_of_row w j 0 _ _ _ h, cell_of_row w j 1 _ _ _ h⟩
theorem dues {r t cl d z : Int} (h0 : -1000000 ≤ r) (h1 : r ≤ 1000000) (t0 : 0 ≤ t) (t1 : t ≤ 562949954469888) (c0 : 0 ≤ cl) (c1 : cl ≤ d) (d1 : d ≤ 1048576) (hz : wh 0 0 r (sh 0 0 r t + (d - cl)) = z) (k : Nat) (w : World) (h : CK w k 0 0 r) :
    Calls Try.prog 20 #[.pointer (some ⟨k, 0, none⟩), .int .i64 t, .int .i64 cl, .int .i64 d] w fun e w' => e = .returned (.tuple #[.int .i64 z, .int .i64 0]) ∧ Below w.heap.size w w' := by
  have D := due_any k 0 0 r t cl d w h ⟨by decide, by decide, by decide, by decide, h0, h1⟩
  rw [du_ok h0 t0 t1 c0 c1 d1, hz] at D
  exact D
set_option maxHeartbeats 4000000 in
set_option maxRecDepth 100000 in
theorem walk (d r s p : Int) (_hr : -9223372036854775808 ≤ r ∧ r ≤ 9223372036854775807) (_hs : -9223372036854775808 ≤ s ∧ s ≤ 9223372036854775807) (_hp : -9223372036854775808 ≤ p ∧ p ≤ 9223372036854775807) (w : World) :
    Calls Try.prog 5 #[.int .i64 d, .int .i64 r, .agg #[.int .i64 s, .int .i64 p]] w fun e w' => e = .returned (.bool true) ∧ Below w.heap.size w w' := by
  clear _hr _hs _hp
  have S0 := (Stay.start w).alloc (arr2 s p)
  go_enter Try.func5, Try.ntmps5
  go_wp2_with fail
  generalize w.alloc (Obj.cells #[.int .i64 s, .int .i64 p] 59) = W0 at *
  refine (fixed_any _).mono ?_
  rintro e w1 ⟨rfl, b1⟩
  have S1 := Lib.hid (S0.next b1)
  clear S0 b1
  cases ho : okN 0 0 r with
  | false =>
    go_wp2_with fail
    refine (ClockW.new_bad 0 0 r ho _).mono ?_
    rintro e w' ⟨rfl, rfl⟩
    go_wp2
    go_ret
    exact ⟨rfl, S1.out.b⟩
  | true =>
    have hci := Lib.hid (okN_iff.1 ho).1
    go_wp2_with fail
    refine (ClockW.new_ok 0 0 r ho _).mono ?_
    rintro e w2 ⟨rfl, c2, b2⟩
    have S2 := Lib.hid ((S1.out.next b2).add (o := ck 0 0 r) c2)
    generalize hk : w1.heap.size = k at *
    clear S1 b2 c2 hk ho
    by_cases d0 : d < 0
    · go_wp2
      go_ret
      exact ⟨rfl, S2.out.b⟩
    · by_cases d1 : 1048576 < d
      · go_wp2
        go_ret
        exact ⟨rfl, S2.out.b⟩
      · obtain ⟨a0, a1⟩ := cells2 (S2.out.at 1 rfl)
        go_wp2_with fail
        go_region
        by_cases s0 : s < 0
        · go_wp2
          go_ret
          exact ⟨rfl, S2.out.drew.b⟩
        · by_cases s1 : 562949953421312 < s
          · go_wp2
            go_ret
            exact ⟨rfl, S2.out.drew.b⟩
          · by_cases p0 : p < 0
            · go_wp2
              go_ret
              exact ⟨rfl, S2.out.drew.b⟩
            · by_cases p1 : d < p
              · go_wp2
                go_ret
                exact ⟨rfl, S2.out.drew.b⟩
              · obtain ⟨t, ht⟩ : ∃ t, s + p = t := ⟨_, rfl⟩
                obtain ⟨z, hz⟩ : ∃ z, wh 0 0 r (sh 0 0 r t + (d - p)) = z := ⟨_, rfl⟩
                have r0 := hci.out.r0
                have r1 := hci.out.r1
                have o1 := drift_bound (r := r) (t := t) (d := d) (e := d - p) r0 r1 (by omega) (by omega) (by omega) (by omega)
                obtain ⟨F, hF⟩ : ∃ F, far d r = F := ⟨_, rfl⟩
                rw [hz, hF] at o1
                have o2 := Lib.hid (show s + d - F ≤ z ∧ z ≤ s + d + F by omega)
                have DA := Lib.hid (dues r0 r1 (by omega) (by omega) (by omega) (by omega) (by omega) hz k)
                have HF := Lib.hid hF
                clear o1 hz hF a0 a1
                have S3 := Lib.hid S2.out.drew
                clear S2
                go_wp2_with fail
                refine (DA.out _ (S3.out.at 0 rfl)).mono ?_
                rintro e w3 ⟨rfl, b3⟩
                have S4 := Lib.hid (S3.out.next b3)
                clear S3 b3
                obtain ⟨o3, o4⟩ := o2.out
                obtain ⟨M, hM⟩ : ∃ M, 2 * d * max r (-r) = M := ⟨_, rfl⟩
                have hm : 0 ≤ M ∧ M ≤ 2097152000000 := by
                  rw [← hM, Int.mul_assoc]
                  have hr : 0 ≤ max r (-r) ∧ max r (-r) ≤ 1000000 := by omega
                  generalize max r (-r) = R at *
                  have a := Int.mul_le_mul_of_nonneg_left hr.2 d0
                  have b := Int.mul_nonneg d0 hr.1
                  omega
                have hF : M / 1000000000 + 2 = F := by rw [← HF.out, ← hM]; rfl
                have e1 : wrap64 M = M := by unfold wrap64; omega
                have e2 : M.tdiv 1000000000 = M / 1000000000 := Int.tdiv_eq_ediv_of_nonneg hm.1
                have e3 : wrap64 (M / 1000000000) = M / 1000000000 := by unfold wrap64; omega
                have e4 : wrap64 F = F := by unfold wrap64; omega
                have e5 : wrap64 (s + d + F) = s + d + F := by unfold wrap64; omega
                have e6 : wrap64 (s + d - F) = s + d - F := by unfold wrap64; omega
                clear hm
                go_wp2
                go_ret
                exact ⟨rfl, S4.out.b⟩
set_option maxRecDepth 100000 in
/-- What the walk gives, for every argument and every world. -/
theorem contract (H : Type) (enc : TypeId × Value → H) (W : World) (base : Nat) (args : Array Value) (ds gs : List (DataW H)) (before : List MemPlace)
    (hval : ∀ (j : Nat) t v, Try.f5.params[j]? = some t → args[j]? = some v → Value.okWide Try.prog W .any base t v)
    (hW : DataW.Whole enc Try.prog Try.f5.params.toList Rows.permDriftsSpec.vars false W args.toList ds gs before) : 
    Calls Try.prog 5 args W fun e W' => ∃ v, e = .returned v ∧ Rows.permDriftsSpec.post enc Try.prog Try.f5 false true false false W args v W' := by
  have hW' := hW
  obtain ⟨p, q, hA0, hV, rfl, hfz, hnd⟩ := hW
  have hA : DataW.TrodAll enc Try.prog W 0 (fun _ => true) true Try.f5.params.toList args.toList ds p := hA0
  rw [Try.params5] at hA hval
  obtain ⟨v0, vs0, d0, ds0, p0, q0, hargs, rfl, rfl, h0, r0⟩ := trodAll_cons hA
  obtain ⟨v1, vs1, d1, ds1, p1, q1, rfl, rfl, rfl, h1, r1⟩ := trodAll_cons r0
  obtain ⟨v2, vs2, d2, ds2, p2, q2, rfl, rfl, rfl, h2, r2⟩ := trodAll_cons r1
  obtain ⟨rfl, rfl, rfl⟩ := trodAll_nil r2
  obtain rfl : args = #[v0, v1, v2] := by cases args; simp_all
  obtain ⟨rfl, rfl⟩ := trodVars_none hV
  obtain ⟨d, rfl, rfl, rfl, w0⟩ := open_int Try.underlying2 (hval 0 2 v0 rfl rfl) h0
  obtain ⟨r, rfl, rfl, rfl, w1⟩ := open_int Try.underlying2 (hval 1 2 v1 rfl rfl) h1
  obtain ⟨l2, rfl, hl2, w2⟩ := open_array Try.underlying59 Try.underlying2 (by kernel_rfl) (by kernel_rfl) (hval 2 59 v2 rfl rfl) h2
  obtain ⟨a0, a1, rfl⟩ := len2 hl2
  have a0w := i64_wf (w2 a0 (by simp))
  have a1w := i64_wf (w2 a1 (by simp))
  refine (walk d r a0 a1 (i64_wf w1) a0w a1w W).mono fun e W' ⟨he, hb⟩ => ?_
  exact ⟨_, he, Shell.post_law laidOut (by kernel_rfl) rfl Try.underlying4 rfl hW' rfl hb⟩
theorem reads (os : Os) {H : Type} (enc : TypeId × Value → H) : ∃ places, DataW.whole enc Try.prog ((World.holding Try.prog os ⟨#[], #[], []⟩).forCall (fun _ _ => 0) ⟨#[], #[.int .i64 0, .int .i64 0, .agg #[.int .i64 0, .int .i64 0]], []⟩).memory Try.f5.params.toList Rows.permDriftsSpec.vars false (#[Value.int .i64 0, Value.int .i64 0, Value.agg #[.int .i64 0, .int .i64 0]]).toList 8 = some ([.lit (.int .i64 0), .lit (.int .i64 0), .agg [.lit (.int .i64 0), .lit (.int .i64 0)]], [], places) :=
  ⟨[], by kernel_rfl⟩
set_option maxRecDepth 100000 in
theorem lifted (os : Os) (started : os.Started) (H : Type) (enc : TypeId × Value → H) (F : Stop.Interp) :
    ReturnsInHanded {} Try.checked os 5 .any ((OpenSpec.ofChange Rows.permDriftsSpec).preRow enc Try.prog Try.f5 Rows.permDriftsRow.domain false Rows.permDriftsRow.laid) (((OpenSpec.ofChange Rows.permDriftsSpec).at F).post enc Try.prog Try.f5 false true false false) := by
  obtain ⟨places, hx⟩ := reads os enc
  refine returnsInHanded_of_row (C := Try.checked) (s := OpenSpec.ofChange Rows.permDriftsSpec) own started (by kernel_rfl) Try.func5
    (witness_row_atRef (enc := enc) (C := Try.checked) false (World.holding Try.prog os ⟨#[], #[], []⟩) #[.int .i64 0, .int .i64 0, .agg #[.int .i64 0, .int .i64 0]] rfl (by kernel_rfl) (by kernel_rfl) (by kernel_rfl)
      (OpenSpec.preRow_of_cond 8 hx (by kernel_rfl) (fun k hk => by cases hk) (by kernel_rfl) (laid_met os _))) ?_
  intro W base args ds gs before hval hW _ _ _ hL _ _
  exact contract H enc W base args ds gs before hval hW
theorem said : Rows.PermDriftsSaid :=
  OpenClaim.holds_of_cond 5 Try.f5 rfl rfl rfl rfl rfl rfl rfl ⟨rfl, rfl, rfl, rfl, rfl⟩ rfl rfl rfl rfl rfl (by kernel_rfl) Try.func5 (by kernel_rfl)
    (of_decide_eq_true (by kernel_rfl)) (by unfold Func.isWrapper; first | (rw [if_pos (by decide +kernel)]; kernel_rfl) | (rw [if_neg (by decide +kernel)]; exact ⟨rfl, rfl⟩))
    (fun os started H enc _ F => by rw [OpenClaim.pre_eq_preRow]; exact lifted os started H enc F)
end Go.Proofs.Ytmkgnkbcdkcboaa.PermW.PermDrifts
