/- The law MeanBetween: of three readings the middle and the tolerant mean are the same, the middle one: for all three readings. No condition. -/
import Derived.Test.YtelfbjldfdlpnaaMeanLay
import Derived.Test.YtelfbjldfdlpnaaMeanPure
namespace Go.Proofs.Ytelfbjldfdlpnaa.MeanW.MeanBetween
open Go.ChangeShapes Go.WideShapes Go.ChangeAt Go.RowKit TickW MeanW
set_option maxHeartbeats 2000000 in
set_option maxRecDepth 100000 in
theorem walk (a b c : Int) (ha : B64 a) (hb : B64 b) (hc : B64 c) (w : World) :
    Calls Try.prog 10 #[.int .i64 a, .int .i64 b, .int .i64 c] w fun e w' => e = .returned (.bool true) ∧ RowKit.Below w.heap.size w w' := by
  have IA : ∀ W : World, IL (W.alloc (.cells #[.int .i64 a, .int .i64 b, .int .i64 c] 2)) (some ⟨W.heap.size, 0, none⟩) [a, b, c] := fun W => il_new W [a, b, c] (fun x hx => by
    rcases List.mem_cons.1 hx with rfl | hx
    · exact ha
    · rcases List.mem_cons.1 hx with rfl | hx
      · exact hb
      · rcases List.mem_cons.1 hx with rfl | hx
        · exact hc
        · cases hx)
  have HA := Lib.hid IA
  obtain ⟨k1, k2, k3⟩ := three (a := a) (b := b) (c := c)
  have e1 : ansM [a, b, c] (tolK [a, b, c]) = .tuple #[.int .i64 ((srt [a, b, c]).getD 1 0), .int .i64 0] := by rw [ansM_some (by simp), k1, k3]
  have e2 : ansM [a, b, c] (midK [a, b, c]) = .tuple #[.int .i64 ((srt [a, b, c]).getD 1 0), .int .i64 0] := by rw [ansM_some (by simp), k2, k3]
  have T := fun W h => tolerant_any (some ⟨W, 0, none⟩) 3 [a, b, c] h
  have HE1 := Lib.hid e1
  have HE2 := Lib.hid e2
  clear IA ha hb hc e1 e2 k1 k2 k3 T
  have hv := getD_at (l := srt [a, b, c]) (i := 1) (by rw [srt_len]; simp)
  have HV := Lib.hid hv
  clear hv
  generalize hz : (srt [a, b, c]).getD 1 0 = z at *
  clear hz
  go_enter Try.func10, Try.ntmps10
  go_wp2_with fail
  refine (fixed_any _).mono ?_
  rintro e w1 ⟨rfl, b1⟩
  have B1 := Lib.hid b1; clear b1
  go_wp2_with fail
  refine (tolerant_any (some ⟨w1.heap.size, 0, none⟩) 3 [a, b, c] _ (HA.out w1) (by simp)).mono ?_
  rintro e w2 ⟨rfl, b2⟩
  rw [HE1.out]
  have I2 := Lib.hid ((HA.out w1).below b2)
  have B2 := Lib.hid (B1.out.trans ((below_new b2).mono B1.out.size)); clear b2
  go_wp2_with fail
  refine (middle_any (some ⟨w1.heap.size, 0, none⟩) 3 [a, b, c] _ I2.out (by simp)).mono ?_
  rintro e w3 ⟨rfl, b3⟩
  rw [HE2.out]
  have I3 := Lib.hid (I2.out.below b3)
  have B3 := Lib.hid (B2.out.trans (b3.mono B2.out.size)); clear b3
  go_wp2_with fail
  refine (refSorted_any (some ⟨w1.heap.size, 0, none⟩) 3 [a, b, c] _ I3.out (by simp) (by simp)).mono ?_
  rintro e w4 ⟨v, rfl, ho, b4⟩
  obtain ⟨g, cap, rfl, -, hu, -⟩ := own_i64c ho (by simp)
  have hc1 := hu 1 _ HV.out
  have B4 := Lib.hid (B3.out.trans (b4.mono B3.out.size)); clear b4 ho hu
  go_wp2
  go_ret
  exact ⟨rfl, B4.out⟩
set_option maxRecDepth 100000 in
/-- What the walk gives, for every argument and every world. -/
theorem contract (H : Type) (enc : TypeId × Value → H) (W : World) (base : Nat) (args : Array Value) (ds gs : List (DataW H)) (before : List MemPlace)
    (hval : ∀ (j : Nat) t v, Try.f10.params[j]? = some t → args[j]? = some v → Value.okWide Try.prog W .any base t v)
    (hW : DataW.Whole enc Try.prog Try.f10.params.toList Rows.meanBetweenSpec.vars false W args.toList ds gs before) : 
    Calls Try.prog 10 args W fun e W' => ∃ v, e = .returned v ∧ Rows.meanBetweenSpec.post enc Try.prog Try.f10 false true false false W args v W' := by
  have hW' := hW
  obtain ⟨p, q, hA0, hV, rfl, hfz, hnd⟩ := hW
  have hA : DataW.TrodAll enc Try.prog W 0 (fun _ => true) true Try.f10.params.toList args.toList ds p := hA0
  rw [Try.params10] at hA hval
  obtain ⟨v0, vs0, d0, ds0, p0, q0, hargs, rfl, rfl, h0, r0⟩ := trodAll_cons hA
  obtain ⟨v1, vs1, d1, ds1, p1, q1, rfl, rfl, rfl, h1, r1⟩ := trodAll_cons r0
  obtain ⟨v2, vs2, d2, ds2, p2, q2, rfl, rfl, rfl, h2, r2⟩ := trodAll_cons r1
  obtain ⟨rfl, rfl, rfl⟩ := trodAll_nil r2
  obtain rfl : args = #[v0, v1, v2] := by cases args; simp_all
  obtain ⟨rfl, rfl⟩ := trodVars_none hV
  obtain ⟨a, rfl, rfl, rfl, w0⟩ := open_int Try.underlying2 (hval 0 2 v0 rfl rfl) h0
  obtain ⟨b, rfl, rfl, rfl, w1⟩ := open_int Try.underlying2 (hval 1 2 v1 rfl rfl) h1
  obtain ⟨c, rfl, rfl, rfl, w2⟩ := open_int Try.underlying2 (hval 2 2 v2 rfl rfl) h2
  refine (walk a b c (i64_wf w0) (i64_wf w1) (i64_wf w2) W).mono fun e W' ⟨he, hb⟩ => ?_
  exact ⟨_, he, Shell.post_law laidOut (by kernel_rfl) rfl Try.underlying4 rfl hW' rfl hb⟩
theorem reads (os : Os) {H : Type} (enc : TypeId × Value → H) : ∃ places, DataW.whole enc Try.prog ((World.holding Try.prog os ⟨#[], #[], []⟩).forCall (fun _ _ => 0) ⟨#[], #[.int .i64 0, .int .i64 0, .int .i64 0], []⟩).memory Try.f10.params.toList Rows.meanBetweenSpec.vars false (#[Value.int .i64 0, Value.int .i64 0, Value.int .i64 0]).toList 8 = some ([.lit (.int .i64 0), .lit (.int .i64 0), .lit (.int .i64 0)], [], places) :=
  ⟨[], by kernel_rfl⟩
set_option maxRecDepth 100000 in
theorem lifted (os : Os) (started : os.Started) (H : Type) (enc : TypeId × Value → H) (F : Stop.Interp) :
    ReturnsInHanded {} Try.checked os 10 .any ((OpenSpec.ofChange Rows.meanBetweenSpec).preRow enc Try.prog Try.f10 Rows.meanBetweenRow.domain false Rows.meanBetweenRow.laid) (((OpenSpec.ofChange Rows.meanBetweenSpec).at F).post enc Try.prog Try.f10 false true false false) := by
  obtain ⟨places, hx⟩ := reads os enc
  refine returnsInHanded_of_row (C := Try.checked) (s := OpenSpec.ofChange Rows.meanBetweenSpec) own started (by kernel_rfl) Try.func10
    (witness_row_atRef (enc := enc) (C := Try.checked) false (World.holding Try.prog os ⟨#[], #[], []⟩) #[.int .i64 0, .int .i64 0, .int .i64 0] rfl (by kernel_rfl) (by kernel_rfl) (by kernel_rfl)
      (OpenSpec.preRow_of_cond 8 hx (by kernel_rfl) (fun k hk => by cases hk) (by kernel_rfl) (laid_met os _))) ?_
  intro W base args ds gs before hval hW _ _ _ hL _ _
  exact contract H enc W base args ds gs before hval hW
theorem said : Rows.MeanBetweenSaid :=
  OpenClaim.holds_of_cond 10 Try.f10 rfl rfl rfl rfl rfl rfl rfl ⟨rfl, rfl, rfl, rfl, rfl⟩ rfl rfl rfl rfl rfl (by kernel_rfl) Try.func10 (by kernel_rfl)
    (of_decide_eq_true (by kernel_rfl)) (by unfold Func.isWrapper; first | (rw [if_pos (by decide +kernel)]; kernel_rfl) | (rw [if_neg (by decide +kernel)]; exact ⟨rfl, rfl⟩))
    (fun os started H enc _ F => by rw [OpenClaim.pre_eq_preRow]; exact lifted os started H enc F)
end Go.Proofs.Ytelfbjldfdlpnaa.MeanW.MeanBetween
