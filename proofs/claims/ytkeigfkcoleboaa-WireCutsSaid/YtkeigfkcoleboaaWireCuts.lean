/- The law WireCuts: a frame that is cut frees the wire at once; a wire that isn't busy isn't cut: for all times and sizes. No condition. -/
import Derived.Test.YtkeigfkcoleboaaWireFixed
namespace Go.Proofs.Ytkeigfkcoleboaa.WireW.WireCuts
open Go.ChangeShapes Go.WideShapes Go.ChangeAt Go.RowKit FrameW WireW Shell
theorem new_free (t : Int) : bsy 0 0 t = false := by unfold bsy; simp
theorem cut_again (b t : Int) : bsy b t t = false := by unfold bsy; simp
theorem snd_again {b t : Int} (h : okT t = true) (hb : b ≤ t) : sndE b t t 64 = 0 := by
  unfold sndE
  rw [h, show okS 64 = true by decide, cut_again]
  simp only [Bool.and_true, if_true, Bool.false_eq_true, if_false]
  rw [if_neg (by omega)]
set_option maxHeartbeats 2000000 in
set_option maxRecDepth 100000 in
theorem walk (t n a : Int) (w : World) (_ha : -9223372036854775808 ≤ a ∧ a ≤ 9223372036854775807) :
    Calls Try.prog 5 #[.int .i64 t, .int .i64 n, .int .i64 a] w fun e w' => e = .returned (.bool true) ∧ Below w.heap.size w w' := by
  go_enter Try.func5, Try.ntmps5
  go_wp2_with fail
  refine (fixed_any _).mono ?_
  rintro e w1 ⟨rfl, b1⟩
  have S1 := Lib.hid (((Stay.start w).next b1))
  clear b1
  go_wp2_with fail
  refine (new_ok 50 (by decide) _).mono ?_
  rintro e w2 ⟨rfl, c2, b2⟩
  have C2 := Lib.hid c2
  have S2 := Lib.hid (S1.out.next b2)
  have NK := Lib.hid S1.out.b.size
  generalize hk : w1.heap.size = k at *
  clear S1 b2 c2 hk
  go_wp2_with fail
  refine (cut_no k 50 0 0 t _ C2.out (new_free t)).mono ?_
  rintro e w' ⟨rfl, rfl⟩
  by_cases hz : sndE 0 0 t n = 0
  · obtain ⟨qt, qn, -, -⟩ := snd_zero hz
    have tb := tim_bounds n
    go_wp2_with fail
    refine (send0 k 50 0 0 t n (t + tim n) (t + tim n + 50) _ C2.out (by decide) hz rfl rfl).mono ?_
    rintro e w3 ⟨rfl, c3, b3⟩
    have C3 := Lib.hid c3
    have S3 := Lib.hid (S2.out.b.trans (b3.below NK.out S2.out.b.size))
    clear c3 b3 C2 S2 hz
    generalize hz : tim n = z at *
    have HZ := Lib.hid hz
    clear hz
    by_cases h1 : t ≤ a
    · have q0 : wrap64 (a - t) = a - t := by unfold wrap64; omega
      by_cases h2 : a < t + z
      · have hb : bsy t (t + z) a = true := bsy_iff.2 ⟨h1, h2⟩
        have q1 : a - t < z := by omega
        go_wp2_with (first | (go_at_call 16; refine (time_any _ _).mono ?_; rintro e w' ⟨rfl, hw⟩; obtain rfl := hw.symm; rw [HZ.out]))
        refine (cut_yes k 50 t (t + z) a _ C3.out hb).mono ?_
        rintro e w4 ⟨rfl, c4, b4⟩
        have C4 := Lib.hid c4
        have S4 := Lib.hid (S3.out.trans (b4.below NK.out S3.out.size))
        clear c4 b4 C3 S3
        go_wp2_with fail
        refine (cut_no k 50 t a a _ C4.out (cut_again t a)).mono ?_
        rintro e w' ⟨rfl, rfl⟩
        by_cases h3 : 1125899906842624 < a
        · go_wp2
          go_ret
          exact ⟨rfl, S4.out⟩
        · have ha : okT a = true := okT_iff.2 (by omega)
          go_wp2_with fail
          refine (free0 k 50 t a a a _ C4.out ha (by unfold fr; rw [cut_again]; rfl)).mono ?_
          rintro e w' ⟨rfl, rfl⟩
          have HS := Lib.hid (snd_again ha h1)
          go_wp2_with fail
          refine (send0 k 50 t a a 64 (a + 512) (a + 512 + 50) _ C4.out (by decide) HS.out (by rw [show tim 64 = 512 by decide]) rfl).mono ?_
          rintro e w5 ⟨rfl, c5, b5⟩
          have S5 := Lib.hid (S4.out.trans (b5.below NK.out S4.out.size))
          go_wp2
          go_ret
          exact ⟨rfl, S5.out⟩
      · have hb : bsy t (t + z) a = false := by unfold bsy; rw [decide_eq_false (by omega : ¬ a < t + z), Bool.and_false]
        have q1 : ¬ a - t < z := by omega
        go_wp2_with (first | (go_at_call 16; refine (time_any _ _).mono ?_; rintro e w' ⟨rfl, hw⟩; obtain rfl := hw.symm; rw [HZ.out]))
        refine (cut_no k 50 t (t + z) a _ C3.out hb).mono ?_
        rintro e w' ⟨rfl, rfl⟩
        go_wp2
        go_ret
        exact ⟨rfl, S3.out⟩
    · have hb : bsy t (t + z) a = false := by unfold bsy; rw [decide_eq_false (by omega : ¬ t ≤ a), Bool.false_and]
      go_wp2_with fail
      refine (cut_no k 50 t (t + z) a _ C3.out hb).mono ?_
      rintro e w' ⟨rfl, rfl⟩
      go_wp2
      go_ret
      exact ⟨rfl, S3.out⟩
  · generalize hy : sndE 0 0 t n = y at *
    have HY := Lib.hid hy
    clear hy
    go_wp2_with fail
    refine (send_no k 50 0 0 t n _ C2.out y HY.out hz).mono ?_
    rintro e w' ⟨rfl, rfl⟩
    have yn : (y == 0) = false := by simpa using hz
    go_wp2
    go_ret
    exact ⟨rfl, S2.out.b⟩
set_option maxRecDepth 100000 in
/-- What the walk gives, for every argument and every world. -/
theorem contract (H : Type) (enc : TypeId × Value → H) (W : World) (base : Nat) (args : Array Value) (ds gs : List (DataW H)) (before : List MemPlace)
    (hval : ∀ (j : Nat) t v, Try.f5.params[j]? = some t → args[j]? = some v → Value.okWide Try.prog W .any base t v)
    (hW : DataW.Whole enc Try.prog Try.f5.params.toList Rows.wireCutsSpec.vars false W args.toList ds gs before) : 
    Calls Try.prog 5 args W fun e W' => ∃ v, e = .returned v ∧ Rows.wireCutsSpec.post enc Try.prog Try.f5 false true false false W args v W' := by
  have hW' := hW
  obtain ⟨p, q, hA0, hV, rfl, hfz, hnd⟩ := hW
  have hA : DataW.TrodAll enc Try.prog W 0 (fun _ => true) true Try.f5.params.toList args.toList ds p := hA0
  rw [Try.params5] at hA hval
  obtain ⟨v0, vs0, d0, ds0, p0, q0, hargs, rfl, rfl, h0, r0⟩ := trodAll_cons hA
  obtain ⟨v1, vs1, d1, ds1, p1, q1, rfl, rfl, rfl, h1, r1⟩ := trodAll_cons r0
  obtain ⟨v2, vs2, d2, ds2, p2, q2, rfl, rfl, rfl, h2, r2⟩ := trodAll_cons r1
  obtain ⟨rfl, rfl, rfl⟩ := trodAll_nil r2
  obtain rfl : args = #[v0, v1, v2] := by cases args; simp_all
  obtain ⟨rfl, rfl⟩ := trodVars_none hV
  obtain ⟨t, rfl, rfl, rfl, w0⟩ := open_int Try.underlying2 (hval 0 2 v0 rfl rfl) h0
  obtain ⟨n, rfl, rfl, rfl, w1⟩ := open_int Try.underlying3 (hval 1 3 v1 rfl rfl) h1
  obtain ⟨a, rfl, rfl, rfl, w2⟩ := open_int Try.underlying2 (hval 2 2 v2 rfl rfl) h2
  refine (walk t n a W (i64_wf w2)).mono fun e W' ⟨he, hb⟩ => ?_
  exact ⟨_, he, Shell.post_law laidOut (by kernel_rfl) rfl Try.underlying4 rfl hW' rfl hb⟩
theorem reads (os : Os) {H : Type} (enc : TypeId × Value → H) : ∃ places, DataW.whole enc Try.prog ((World.holding Try.prog os ⟨#[], #[], []⟩).forCall (fun _ _ => 0) ⟨#[], #[.int .i64 0, .int .i64 0, .int .i64 0], []⟩).memory Try.f5.params.toList Rows.wireCutsSpec.vars false (#[Value.int .i64 0, Value.int .i64 0, Value.int .i64 0]).toList 8 = some ([.lit (.int .i64 0), .lit (.int .i64 0), .lit (.int .i64 0)], [], places) :=
  ⟨[], by kernel_rfl⟩
set_option maxRecDepth 100000 in
theorem lifted (os : Os) (started : os.Started) (H : Type) (enc : TypeId × Value → H) (F : Stop.Interp) :
    ReturnsInHanded {} Try.checked os 5 .any ((OpenSpec.ofChange Rows.wireCutsSpec).preRow enc Try.prog Try.f5 Rows.wireCutsRow.domain false Rows.wireCutsRow.laid) (((OpenSpec.ofChange Rows.wireCutsSpec).at F).post enc Try.prog Try.f5 false true false false) := by
  obtain ⟨places, hx⟩ := reads os enc
  refine returnsInHanded_of_row (C := Try.checked) (s := OpenSpec.ofChange Rows.wireCutsSpec) own started (by kernel_rfl) Try.func5
    (witness_row_atRef (enc := enc) (C := Try.checked) false (World.holding Try.prog os ⟨#[], #[], []⟩) #[.int .i64 0, .int .i64 0, .int .i64 0] rfl (by kernel_rfl) (by kernel_rfl) (by kernel_rfl)
      (OpenSpec.preRow_of_cond 8 hx (by kernel_rfl) (fun k hk => by cases hk) (by kernel_rfl) (laid_met os _))) ?_
  intro W base args ds gs before hval hW _ _ _ hL _ _
  exact contract H enc W base args ds gs before hval hW
theorem said : Rows.WireCutsSaid :=
  OpenClaim.holds_of_cond 5 Try.f5 rfl rfl rfl rfl rfl rfl rfl ⟨rfl, rfl, rfl, rfl, rfl⟩ rfl rfl rfl rfl rfl (by kernel_rfl) Try.func5 (by kernel_rfl)
    (of_decide_eq_true (by kernel_rfl)) (by unfold Func.isWrapper; first | (rw [if_pos (by decide +kernel)]; kernel_rfl) | (rw [if_neg (by decide +kernel)]; exact ⟨rfl, rfl⟩))
    (fun os started H enc _ F => by rw [OpenClaim.pre_eq_preRow]; exact lifted os started H enc F)
end Go.Proofs.Ytkeigfkcoleboaa.WireW.WireCuts
