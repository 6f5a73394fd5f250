/- The law MeanReadings: Tolerant, Middle, Spread of any readings are as the document's own: for every list of readings. No condition. -/
import Derived.Test.YtelfbjldfdlpnaaMeanLay
namespace Go.Proofs.Ytelfbjldfdlpnaa.MeanW.MeanReadings
open Go.ChangeShapes Go.WideShapes Go.ChangeAt Go.RowKit TickW MeanW
set_option maxHeartbeats 2000000 in
set_option maxRecDepth 100000 in
theorem walk (A : Option Addr) (xs : List Int) (c : Nat) (w : World) (h : IL w A xs) (hl : xs.length * 8 ≤ 140737488355328) (hc : xs.length ≤ c) :
    Calls Try.prog 3 #[.slice A xs.length c] w fun e w' => e = .returned (.bool true) ∧ RowKit.Below w.heap.size w w' := by
  have H := Lib.hid h
  have HL := Lib.hid hl
  have HC := Lib.hid hc
  obtain ⟨n1, m1, hk1⟩ := ansM_tuple xs (tolK xs)
  obtain ⟨n2, m2, hk2⟩ := ansM_tuple xs (midK xs)
  clear h hl hc
  go_enter Try.func3, Try.ntmps3
  go_wp2_with fail
  refine (fixed_any _).mono ?_
  rintro e w1 ⟨rfl, b1⟩
  have B1 := Lib.hid b1; clear b1
  go_wp2_with fail
  refine (tolerant_any A c xs _ (H.out.below B1.out) HL.out).mono ?_
  rintro e w2 ⟨rfl, b2⟩
  rw [hk1]
  have B2 := Lib.hid (B1.out.trans (b2.mono B1.out.size)); clear b2
  go_wp2_with fail
  refine (middle_any A c xs _ (H.out.below B2.out) HL.out).mono ?_
  rintro e w3 ⟨rfl, b3⟩
  rw [hk2]
  have B3 := Lib.hid (B2.out.trans (b3.mono B2.out.size)); clear b3
  go_wp2_with fail
  refine (refTolerant_any A c xs _ (H.out.below B3.out) HL.out HC.out).mono ?_
  rintro e w4 ⟨rfl, b4⟩
  rw [hk1]
  have B4 := Lib.hid (B3.out.trans (b4.mono B3.out.size)); clear b4
  go_wp2_with fail
  refine (refMiddle_any A c xs _ (H.out.below B4.out) HL.out HC.out).mono ?_
  rintro e w5 ⟨rfl, b5⟩
  rw [hk2]
  have B5 := Lib.hid (B4.out.trans (b5.mono B4.out.size)); clear b5 hk1 hk2
  go_wp2_with fail
  refine (spread_any A c xs _ (H.out.below B5.out) HL.out).mono ?_
  rintro e w6 ⟨rfl, rfl⟩
  go_wp2_with fail
  refine (refSpread_any A c xs _ (H.out.below B5.out) HL.out HC.out).mono ?_
  rintro e w7 ⟨rfl, b7⟩
  have B7 := Lib.hid (B5.out.trans (b7.mono B5.out.size)); clear b7
  go_wp2
  go_ret
  exact ⟨rfl, B7.out⟩
set_option maxRecDepth 100000 in
/-- What the walk gives, for every argument and every world. -/
theorem contract (H : Type) (enc : TypeId × Value → H) (W : World) (base : Nat) (args : Array Value) (ds gs : List (DataW H)) (before : List MemPlace)
    (hval : ∀ (j : Nat) t v, Try.f3.params[j]? = some t → args[j]? = some v → Value.okWide Try.prog W .any base t v)
    (hW : DataW.Whole enc Try.prog Try.f3.params.toList Rows.meanReadingsSpec.vars false W args.toList ds gs before) (hz : (DataW.weightsEach Try.prog (Try.f3.params.toList ++ (OpenSpec.ofChange Rows.meanReadingsSpec).bare.plain.varTypes Try.prog) (ds ++ gs)).all (· ≤ reachBytes) = true) : 
    Calls Try.prog 3 args W fun e W' => ∃ v, e = .returned v ∧ Rows.meanReadingsSpec.post enc Try.prog Try.f3 false true false false W args v W' := by
  have hW' := hW
  obtain ⟨p, q, hA0, hV, rfl, hfz, hnd⟩ := hW
  have hA : DataW.TrodAll enc Try.prog W 0 (fun _ => true) true Try.f3.params.toList args.toList ds p := hA0
  rw [Try.params3] at hA hval
  obtain ⟨v0, vs0, d0, ds0, p0, q0, hargs, rfl, rfl, h0, r0⟩ := trodAll_cons hA
  obtain ⟨rfl, rfl, rfl⟩ := trodAll_nil r0
  obtain rfl : args = #[v0] := by cases args; simp_all
  obtain ⟨rfl, rfl⟩ := trodVars_none hV
  obtain ⟨A0, xs, c0, rfl, f0, l0, lc0, sz0, nl0⟩ := open_int64s Try.underlying22 Try.underlying2 (by kernel_rfl) (hval 0 22 v0 rfl rfl) h0
  have z0 : xs.length * 8 ≤ 140737488351232 := by
    rcases sz0 with h | ⟨es, sp, hd, hl⟩
    · rw [h]; decide
    · have := sized_slice hz (j := 0) (t := 22) (e := 2) (elems := es) (spare := sp) (by rw [Try.params3]; rfl) (by rw [hd]; rfl) Try.underlying22
      rw [show Try.prog.bytesOf 2 = 8 by kernel_rfl, show reachBytes = 140737488351232 from rfl] at this
      omega
  refine (walk A0 xs c0 W f0 (by omega) lc0).mono fun e W' ⟨he, hb⟩ => ?_
  exact ⟨_, he, Shell.post_law laidOut (by kernel_rfl) rfl Try.underlying4 rfl hW' rfl hb⟩
theorem reads (os : Os) {H : Type} (enc : TypeId × Value → H) : ∃ places, DataW.whole enc Try.prog ((World.holding Try.prog os ⟨#[], #[], []⟩).forCall (fun _ _ => 0) ⟨#[], #[.slice none 0 0], []⟩).memory Try.f3.params.toList Rows.meanReadingsSpec.vars false (#[Value.slice none 0 0]).toList 8 = some ([.nil], [], places) :=
  ⟨[], by kernel_rfl⟩
set_option maxRecDepth 100000 in
theorem lifted (os : Os) (started : os.Started) (H : Type) (enc : TypeId × Value → H) (F : Stop.Interp) :
    ReturnsInHanded {} Try.checked os 3 .any ((OpenSpec.ofChange Rows.meanReadingsSpec).preRow enc Try.prog Try.f3 Rows.meanReadingsRow.domain false Rows.meanReadingsRow.laid) (((OpenSpec.ofChange Rows.meanReadingsSpec).at F).post enc Try.prog Try.f3 false true false false) := by
  obtain ⟨places, hx⟩ := reads os enc
  refine returnsInHanded_of_row (C := Try.checked) (s := OpenSpec.ofChange Rows.meanReadingsSpec) own started (by kernel_rfl) Try.func3
    (witness_row_atRef (enc := enc) (C := Try.checked) false (World.holding Try.prog os ⟨#[], #[], []⟩) #[.slice none 0 0] rfl (by kernel_rfl) (by kernel_rfl) (by kernel_rfl)
      (OpenSpec.preRow_of_cond 8 hx (by kernel_rfl) (fun k hk => by cases hk) (by kernel_rfl) (laid_met os _))) ?_
  intro W base args ds gs before hval hW _ _ hz hL _ _
  exact contract H enc W base args ds gs before hval hW hz
theorem said : Rows.MeanReadingsSaid :=
  OpenClaim.holds_of_cond 3 Try.f3 rfl rfl rfl rfl rfl rfl rfl ⟨rfl, rfl, rfl, rfl, rfl⟩ rfl rfl rfl rfl rfl (by kernel_rfl) Try.func3 (by kernel_rfl)
    (of_decide_eq_true (by kernel_rfl)) (by unfold Func.isWrapper; first | (rw [if_pos (by decide +kernel)]; kernel_rfl) | (rw [if_neg (by decide +kernel)]; exact ⟨rfl, rfl⟩))
    (fun os started H enc _ F => by rw [OpenClaim.pre_eq_preRow]; exact lifted os started H enc F)
end Go.Proofs.Ytelfbjldfdlpnaa.MeanW.MeanReadings
