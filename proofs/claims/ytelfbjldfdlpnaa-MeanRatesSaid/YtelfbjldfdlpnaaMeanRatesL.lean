/- The law MeanRates: the mean of any rates, and of how many, is as the document's own: for every list of float64, NaNs and infinities among them. No condition. -/
import Derived.Test.YtelfbjldfdlpnaaMeanLay
namespace Go.Proofs.Ytelfbjldfdlpnaa.MeanW.MeanRates
open Go.ChangeShapes Go.WideShapes Go.ChangeAt Go.RowKit NumP MeanW
set_option maxHeartbeats 2000000 in
set_option maxRecDepth 100000 in
theorem walk (A : Option Addr) (xs : List Nat) (c : Nat) (w : World) (h : FL w A xs) (hl : xs.length * 8 ≤ 140737488355328) :
    Calls Try.prog 4 #[.slice A xs.length c] w fun e w' => e = .returned (.bool true) ∧ RowKit.Below w.heap.size w w' := by
  have H := Lib.hid h
  have HL := Lib.hid hl
  have hv : ratesV xs = .tuple #[.float .f64 (meanR xs), .int .i64 ((fins xs).length : Int)] := rfl
  have hv2 : refRatesV xs = .tuple #[.int .u64 (meanR xs : Int), .int .i64 ((fins xs).length : Int)] := rfl
  have HV := Lib.hid hv
  have HV2 := Lib.hid hv2
  clear h hl hv hv2
  generalize meanR xs = mr at *
  generalize (fins xs).length = k at *
  go_enter Try.func4, Try.ntmps4
  go_wp2_with fail
  refine (fixed_any _).mono ?_
  rintro e w1 ⟨rfl, b1⟩
  have B1 := Lib.hid b1; clear b1
  go_wp2_with fail
  refine (rates_any A c xs _ (H.out.below B1.out) HL.out).mono ?_
  rintro e w2 ⟨rfl, b2⟩
  rw [HV.out]
  have B2 := Lib.hid (B1.out.trans (b2.mono B1.out.size)); clear b2
  go_wp2_with fail
  refine (refRates_any A c xs _ (H.out.below B2.out) HL.out).mono ?_
  rintro e w3 ⟨rfl, rfl⟩
  rw [HV2.out]
  go_wp2
  go_ret
  exact ⟨rfl, B2.out⟩
set_option maxRecDepth 100000 in
/-- What the walk gives, for every argument and every world. -/
theorem contract (H : Type) (enc : TypeId × Value → H) (W : World) (base : Nat) (args : Array Value) (ds gs : List (DataW H)) (before : List MemPlace)
    (hval : ∀ (j : Nat) t v, Try.f4.params[j]? = some t → args[j]? = some v → Value.okWide Try.prog W .any base t v)
    (hW : DataW.Whole enc Try.prog Try.f4.params.toList Rows.meanRatesSpec.vars false W args.toList ds gs before) (hz : (DataW.weightsEach Try.prog (Try.f4.params.toList ++ (OpenSpec.ofChange Rows.meanRatesSpec).bare.plain.varTypes Try.prog) (ds ++ gs)).all (· ≤ reachBytes) = true) : 
    Calls Try.prog 4 args W fun e W' => ∃ v, e = .returned v ∧ Rows.meanRatesSpec.post enc Try.prog Try.f4 false true false false W args v W' := by
  have hW' := hW
  obtain ⟨p, q, hA0, hV, rfl, hfz, hnd⟩ := hW
  have hA : DataW.TrodAll enc Try.prog W 0 (fun _ => true) true Try.f4.params.toList args.toList ds p := hA0
  rw [Try.params4] at hA hval
  obtain ⟨v0, vs0, d0, ds0, p0, q0, hargs, rfl, rfl, h0, r0⟩ := trodAll_cons hA
  obtain ⟨rfl, rfl, rfl⟩ := trodAll_nil r0
  obtain rfl : args = #[v0] := by cases args; simp_all
  obtain ⟨rfl, rfl⟩ := trodVars_none hV
  obtain ⟨A0, xs, c0, rfl, f0, l0, lc0, sz0, nl0⟩ := Shell.open_floats Try.underlying30 Try.underlying31 (by kernel_rfl) (hval 0 30 v0 rfl rfl) h0
  have z0 : xs.length * 8 ≤ 140737488351232 := by
    rcases sz0 with h | ⟨es, sp, hd, hl⟩
    · rw [h]; decide
    · have := sized_slice hz (j := 0) (t := 30) (e := 31) (elems := es) (spare := sp) (by rw [Try.params4]; rfl) (by rw [hd]; rfl) Try.underlying30
      rw [show Try.prog.bytesOf 31 = 8 by kernel_rfl, show reachBytes = 140737488351232 from rfl] at this
      omega
  refine (walk A0 xs c0 W f0 (by omega)).mono fun e W' ⟨he, hb⟩ => ?_
  exact ⟨_, he, Shell.post_law laidOut (by kernel_rfl) rfl Try.underlying4 rfl hW' rfl hb⟩
theorem reads (os : Os) {H : Type} (enc : TypeId × Value → H) : ∃ places, DataW.whole enc Try.prog ((World.holding Try.prog os ⟨#[], #[], []⟩).forCall (fun _ _ => 0) ⟨#[], #[.slice none 0 0], []⟩).memory Try.f4.params.toList Rows.meanRatesSpec.vars false (#[Value.slice none 0 0]).toList 8 = some ([.nil], [], places) :=
  ⟨[], by kernel_rfl⟩
set_option maxRecDepth 100000 in
theorem lifted (os : Os) (started : os.Started) (H : Type) (enc : TypeId × Value → H) (F : Stop.Interp) :
    ReturnsInHanded {} Try.checked os 4 .any ((OpenSpec.ofChange Rows.meanRatesSpec).preRow enc Try.prog Try.f4 Rows.meanRatesRow.domain false Rows.meanRatesRow.laid) (((OpenSpec.ofChange Rows.meanRatesSpec).at F).post enc Try.prog Try.f4 false true false false) := by
  obtain ⟨places, hx⟩ := reads os enc
  refine returnsInHanded_of_row (C := Try.checked) (s := OpenSpec.ofChange Rows.meanRatesSpec) own started (by kernel_rfl) Try.func4
    (witness_row_atRef (enc := enc) (C := Try.checked) false (World.holding Try.prog os ⟨#[], #[], []⟩) #[.slice none 0 0] rfl (by kernel_rfl) (by kernel_rfl) (by kernel_rfl)
      (OpenSpec.preRow_of_cond 8 hx (by kernel_rfl) (fun k hk => by cases hk) (by kernel_rfl) (laid_met os _))) ?_
  intro W base args ds gs before hval hW _ _ hz hL _ _
  exact contract H enc W base args ds gs before hval hW hz
theorem said : Rows.MeanRatesSaid :=
  OpenClaim.holds_of_cond 4 Try.f4 rfl rfl rfl rfl rfl rfl rfl ⟨rfl, rfl, rfl, rfl, rfl⟩ rfl rfl rfl rfl rfl (by kernel_rfl) Try.func4 (by kernel_rfl)
    (of_decide_eq_true (by kernel_rfl)) (by unfold Func.isWrapper; first | (rw [if_pos (by decide +kernel)]; kernel_rfl) | (rw [if_neg (by decide +kernel)]; exact ⟨rfl, rfl⟩))
    (fun os started H enc _ F => by rw [OpenClaim.pre_eq_preRow]; exact lifted os started H enc F)
end Go.Proofs.Ytelfbjldfdlpnaa.MeanW.MeanRates
