/- The law MeanTwins: readings all alike have that as their means, and no spread: for every number and every count. No condition. -/
import Derived.Test.YtelfbjldfdlpnaaMeanLay
import Derived.Test.YtelfbjldfdlpnaaMeanPure
namespace Go.Proofs.Ytelfbjldfdlpnaa.MeanW.MeanTwins
open Go.ChangeShapes Go.WideShapes Go.ChangeAt Go.RowKit TickW MeanW
theorem u8_of {n : Int} (h : (Lit.int .u8 n).wf = true) : 0 ≤ n ∧ n ≤ 255 := by
  simp [Lit.wf] at h
  exact h
theorem rep_snoc (n : Int) (k : Nat) : List.replicate (k + 1) n = List.replicate k n ++ [n] := by rw [List.replicate_succ']
set_option maxHeartbeats 2000000 in
set_option maxRecDepth 100000 in
theorem walk (n t : Int) (hn : B64 n) (ht : (Lit.int .u8 t).wf = true) (w : World) :
    Calls Try.prog 9 #[.int .i64 n, .int .u8 t] w fun e w' => e = .returned (.bool true) ∧ RowKit.Below w.heap.size w w' := by
  obtain ⟨t0, t1⟩ := u8_of ht
  obtain ⟨m, hm, hm2⟩ : ∃ m : Nat, t.tmod 20 = (m : Int) ∧ m < 20 := by
    refine ⟨(t.tmod 20).toNat, ?_, ?_⟩
    · rw [Int.tmod_eq_emod_of_nonneg t0]; omega
    · rw [Int.tmod_eq_emod_of_nonneg t0]; omega
  obtain ⟨i0, hi, hz0, hz1, hz2⟩ := i64_info
  have HI := Lib.hid hi
  have HZ0 := Lib.hid hz0
  have HZ1 := Lib.hid hz1
  have HZ2 := Lib.hid hz2
  have HNB := Lib.hid hn
  clear hi hz0 hz1 hz2 ht hn
  go_enter Try.func9, Try.ntmps9
  go_wp2_with fail
  refine (fixed_any _).mono ?_
  rintro e w1 ⟨rfl, b1⟩
  have B1 := Lib.hid b1; clear b1
  go_wp2_with fail
  go_loopw [5, 16] (fun r i wr => ∃ k : Nat, k ≤ m + 1 ∧ i = .int .i64 k ∧ Hid (wr.ownsRow w1.heap.size 2 1 r k (i64s (List.replicate k n))) ∧ Hid (RowKit.Below w1.heap.size w1 wr)) (fun _ i _ => m + 1 - (intOf i).toNat)
  case atStart => exact ⟨0, Nat.zero_le _, rfl, Lib.hid (World.ownsRow_nil _ _ _ _), Lib.hid (Below.refl _ _)⟩
  case round =>
    obtain ⟨k, hk, rfl, HO, HW⟩ := hrel
    by_cases hlt : k < m + 1
    · have hlt2 : (k : Int) < (m : Int) + 1 := by omega
      go_wp2_with (at_builtin; refine wpList_append_own _ rfl _ _ 22 rfl w1.heap.size 2 i0 (.int .i64 0) 1 8 Try.underlying22 HI.out HZ0.out HZ1.out HZ2.out rfl (by decide) _ _ _ rfl (HO.out.alloc _) ⟨wr.heap.size, 0, none⟩ 1 1 [.int .i64 n] rfl rfl ?c1 ?c2 ?c3 ?c4 ?c5 ?_)
      case c1 => exact (cell_one_new _ _ _)
      case c2 => intro u hu; simp at hu; subst hu; rfl
      case c3 => unfold maxLen; omega
      case c4 => omega
      case c5 => rw [World.size_alloc]; exact Nat.le_succ_of_le HW.out.size
      intro v' w6 hown2 hgrow _
      rw [← i64s_snoc, ← rep_snoc] at hown2
      have HN : Hid (w6.ownsRow w1.heap.size 2 1 v' (k + 1) (i64s (List.replicate (k + 1) n))) := Lib.hid hown2
      have HW6 : Hid (RowKit.Below w1.heap.size w1 w6) := Lib.hid ((HW.out.alloc HW.out.size _).grown hgrow (by rw [World.size_alloc]; exact Nat.le_succ_of_le HW.out.size) (fun p hp => (HO.out.lt p hp).1))
      clear hown2 hgrow
      go_wp2_with fail
      exact ⟨⟨k + 1, by omega, by go_num, HN, HW6⟩, by simp [intOf]; omega⟩
    · obtain rfl : k = m + 1 := by omega
      have hlt2 : ¬ ((m + 1 : Nat) : Int) < (m : Int) + 1 := by omega
      obtain ⟨A, c, rfl, hil, hc⟩ := own_il HO.out (by rw [List.length_replicate]) (fun x hx => by rw [List.eq_of_mem_replicate hx]; exact HNB.out)
      have I1 := Lib.hid hil
      have B2 := Lib.hid (B1.out.trans (HW.out.mono B1.out.size))
      have hlen : (List.replicate (m + 1) n).length = m + 1 := List.length_replicate
      have T : ∀ W, IL W A (List.replicate (m + 1) n) → Calls Try.prog 12 #[.slice A (m + 1) c] W fun e w' => e = .returned (.tuple #[.int .i64 n, .int .i64 0]) ∧ RowKit.Below W.heap.size W w' := fun W h => by
        have := tolerant_any A c _ W h (by rw [hlen]; omega)
        rwa [ansM_some (by rw [hlen]; omega), twins_half n (m + 1) _ (by unfold tolK; rw [hlen]; omega), hlen] at this
      have M : ∀ W, IL W A (List.replicate (m + 1) n) → Calls Try.prog 13 #[.slice A (m + 1) c] W fun e w' => e = .returned (.tuple #[.int .i64 n, .int .i64 0]) ∧ RowKit.Below W.heap.size W w' := fun W h => by
        have := middle_any A c _ W h (by rw [hlen]; omega)
        rwa [ansM_some (by rw [hlen]; omega), twins_half n (m + 1) _ (by unfold midK; rw [hlen]; omega), hlen] at this
      have S : ∀ W, IL W A (List.replicate (m + 1) n) → Calls Try.prog 16 #[.slice A (m + 1) c] W fun e w' => e = .returned (.int .u64 0) ∧ w' = W := fun W h => by
        have := spread_any A c _ W h (by rw [hlen]; omega)
        rwa [twins_spread, hlen] at this
      clear hil hc hlen hlt
      go_wp2_with fail
      refine (T _ I1.out).mono ?_
      rintro e w2 ⟨rfl, b2⟩
      have I2 := Lib.hid (I1.out.below b2)
      have B3 := Lib.hid (B2.out.trans (b2.mono B2.out.size)); clear b2
      go_wp2_with fail
      refine (M _ I2.out).mono ?_
      rintro e w3 ⟨rfl, b3⟩
      have I3 := Lib.hid (I2.out.below b3)
      have B4 := Lib.hid (B3.out.trans (b3.mono B3.out.size)); clear b3
      go_wp2_with (go_at_call 16; refine (S _ I3.out).mono ?_; rintro e w4 ⟨rfl, rfl⟩)
      go_ret
      exact ⟨rfl, B4.out⟩
set_option maxRecDepth 100000 in
/-- What the walk gives, for every argument and every world. -/
theorem contract (H : Type) (enc : TypeId × Value → H) (W : World) (base : Nat) (args : Array Value) (ds gs : List (DataW H)) (before : List MemPlace)
    (hval : ∀ (j : Nat) t v, Try.f9.params[j]? = some t → args[j]? = some v → Value.okWide Try.prog W .any base t v)
    (hW : DataW.Whole enc Try.prog Try.f9.params.toList Rows.meanTwinsSpec.vars false W args.toList ds gs before) : 
    Calls Try.prog 9 args W fun e W' => ∃ v, e = .returned v ∧ Rows.meanTwinsSpec.post enc Try.prog Try.f9 false true false false W args v W' := by
  have hW' := hW
  obtain ⟨p, q, hA0, hV, rfl, hfz, hnd⟩ := hW
  have hA : DataW.TrodAll enc Try.prog W 0 (fun _ => true) true Try.f9.params.toList args.toList ds p := hA0
  rw [Try.params9] at hA hval
  obtain ⟨v0, vs0, d0, ds0, p0, q0, hargs, rfl, rfl, h0, r0⟩ := trodAll_cons hA
  obtain ⟨v1, vs1, d1, ds1, p1, q1, rfl, rfl, rfl, h1, r1⟩ := trodAll_cons r0
  obtain ⟨rfl, rfl, rfl⟩ := trodAll_nil r1
  obtain rfl : args = #[v0, v1] := by cases args; simp_all
  obtain ⟨rfl, rfl⟩ := trodVars_none hV
  obtain ⟨n, rfl, rfl, rfl, w0⟩ := open_int Try.underlying2 (hval 0 2 v0 rfl rfl) h0
  obtain ⟨t, rfl, rfl, rfl, w1⟩ := open_int Try.underlying5 (hval 1 5 v1 rfl rfl) h1
  refine (walk n t (i64_wf w0) w1 W).mono fun e W' ⟨he, hb⟩ => ?_
  exact ⟨_, he, Shell.post_law laidOut (by kernel_rfl) rfl Try.underlying4 rfl hW' rfl hb⟩
theorem reads (os : Os) {H : Type} (enc : TypeId × Value → H) : ∃ places, DataW.whole enc Try.prog ((World.holding Try.prog os ⟨#[], #[], []⟩).forCall (fun _ _ => 0) ⟨#[], #[.int .i64 0, .int .u8 0], []⟩).memory Try.f9.params.toList Rows.meanTwinsSpec.vars false (#[Value.int .i64 0, Value.int .u8 0]).toList 8 = some ([.lit (.int .i64 0), .lit (.int .u8 0)], [], places) :=
  ⟨[], by kernel_rfl⟩
set_option maxRecDepth 100000 in
theorem lifted (os : Os) (started : os.Started) (H : Type) (enc : TypeId × Value → H) (F : Stop.Interp) :
    ReturnsInHanded {} Try.checked os 9 .any ((OpenSpec.ofChange Rows.meanTwinsSpec).preRow enc Try.prog Try.f9 Rows.meanTwinsRow.domain false Rows.meanTwinsRow.laid) (((OpenSpec.ofChange Rows.meanTwinsSpec).at F).post enc Try.prog Try.f9 false true false false) := by
  obtain ⟨places, hx⟩ := reads os enc
  refine returnsInHanded_of_row (C := Try.checked) (s := OpenSpec.ofChange Rows.meanTwinsSpec) own started (by kernel_rfl) Try.func9
    (witness_row_atRef (enc := enc) (C := Try.checked) false (World.holding Try.prog os ⟨#[], #[], []⟩) #[.int .i64 0, .int .u8 0] rfl (by kernel_rfl) (by kernel_rfl) (by kernel_rfl)
      (OpenSpec.preRow_of_cond 8 hx (by kernel_rfl) (fun k hk => by cases hk) (by kernel_rfl) (laid_met os _))) ?_
  intro W base args ds gs before hval hW _ _ _ hL _ _
  exact contract H enc W base args ds gs before hval hW
theorem said : Rows.MeanTwinsSaid :=
  OpenClaim.holds_of_cond 9 Try.f9 rfl rfl rfl rfl rfl rfl rfl ⟨rfl, rfl, rfl, rfl, rfl⟩ rfl rfl rfl rfl rfl (by kernel_rfl) Try.func9 (by kernel_rfl)
    (of_decide_eq_true (by kernel_rfl)) (by unfold Func.isWrapper; first | (rw [if_pos (by decide +kernel)]; kernel_rfl) | (rw [if_neg (by decide +kernel)]; exact ⟨rfl, rfl⟩))
    (fun os started H enc _ F => by rw [OpenClaim.pre_eq_preRow]; exact lifted os started H enc F)
end Go.Proofs.Ytelfbjldfdlpnaa.MeanW.MeanTwins
