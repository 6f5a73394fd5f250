/- The law WireClears: the time that a control frame has spent adds up, and is refused where it leaves its range; a nil wire takes nothing: for all frames and numbers. No condition. -/
import Derived.Test.YtkeigfkcoleboaaWireFixed
namespace Go.Proofs.Ytkeigfkcoleboaa.WireW.WireClears
open Go.ChangeShapes Go.WideShapes Go.ChangeAt Go.RowKit FrameW WireW Shell
theorem clr_far {cl a : Int} (h0 : ¬ a < 0) (h : cl < 0 ∨ 1048576 < cl ∨ 1048576 < a ∨ 1048576 < cl + a) : clrE cl a = 4 := by
  unfold clrE
  rw [if_neg h0, if_neg]
  intro h2
  rw [Bool.and_eq_true, decide_eq_true_iff] at h2
  have := okD_iff.1 h2.1
  omega
theorem clr_in {cl a : Int} (h0 : 0 ≤ a) (h1 : 0 ≤ cl) (h2 : cl + a ≤ 1048576) : clrE cl a = 0 := by
  unfold clrE
  rw [if_neg (by omega), if_pos]
  rw [Bool.and_eq_true, decide_eq_true_iff]
  exact ⟨okD_iff.2 ⟨h1, by omega⟩, by omega⟩
set_option maxHeartbeats 4000000 in
set_option maxRecDepth 100000 in
theorem walk (k f cy cr cl a b : Int) (w : World) :
    Calls Try.prog 6 #[CV k f cy cr cl, .int .i64 a, .int .i64 b] w fun e w' => e = .returned (.bool true) ∧ Below w.heap.size w w' := by
  have S0 := (Stay.start w).alloc (cbox k f cy cr cl)
  go_enter Try.func6, Try.ntmps6
  go_wp2_with fail
  generalize w.alloc (Obj.cells #[.int .i64 k, .int .i64 f, .int .i64 cy, .int .u32 cr, .int .i64 cl] 44) = W0 at *
  refine (fixed_any _).mono ?_
  rintro e w1 ⟨rfl, b1⟩
  have S1 := Lib.hid (S0.next b1)
  obtain ⟨a0, a1, a2, a3, a4⟩ := cells5 (S1.out.at 0 rfl)
  clear S0 b1
  go_wp2_with fail
  refine (send_nil _ _ _).mono ?_
  rintro e w' ⟨rfl, rfl⟩
  go_wp2_with fail
  refine (free_nil _ _).mono ?_
  rintro e w' ⟨rfl, rfl⟩
  go_wp2_with fail
  refine (cut_nil _ _).mono ?_
  rintro e w' ⟨rfl, rfl⟩
  go_wp2_with fail
  by_cases ha : a < 0
  · refine (clear_neg k f cy cr cl a _ ha).mono ?_
    rintro e w2 ⟨rfl, b2⟩
    have S2 := Lib.hid (S1.out.next b2)
    clear a0 a1 a2 a3 a4
    obtain ⟨a0, a1, a2, a3, a4⟩ := cells5 (S2.out.at 0 rfl)
    clear b2 S1
    have E := fun w => eql_ctl 0 0 0 0 0 w
    go_wp2
    go_ret
    exact ⟨rfl, (S2.out.alloc _).b⟩
  · by_cases hf : cl < 0 ∨ 1048576 < cl ∨ 1048576 < a ∨ 1048576 < cl + a
    · refine (clear_far k f cy cr cl a _ (clr_far ha hf)).mono ?_
      rintro e w2 ⟨rfl, b2⟩
      have S2 := Lib.hid ((S1.out.next b2).alloc (cbox 0 0 0 0 0))
      clear a0 a1 a2 a3 a4
      obtain ⟨a0, a1, a2, a3, a4⟩ := cells5 (S2.out.at 1 rfl)
      clear b2 S1
      have E := fun w => eql_ctl 0 0 0 0 0 w
      by_cases h1 : cl < 0
      · clear hf
        go_wp2
        go_ret
        exact ⟨rfl, S2.out.b⟩
      · by_cases h2 : 1048576 < cl
        · clear hf
          go_wp2
          go_ret
          exact ⟨rfl, S2.out.b⟩
        · by_cases h3 : 1048576 < a
          · clear hf
            go_wp2
            go_ret
            exact ⟨rfl, S2.out.b⟩
          · have h4 : 1048576 < cl + a := by omega
            have q : wrap64 (cl + a) = cl + a := by unfold wrap64; omega
            clear hf
            go_wp2
            go_ret
            exact ⟨rfl, S2.out.b⟩
    · have g1 : 0 ≤ a := by omega
      have g2 : 0 ≤ cl := by omega
      have g3 : cl + a ≤ 1048576 := by omega
      have q : wrap64 (cl + a) = cl + a := by unfold wrap64; omega
      refine (clear_ok k f cy cr cl a _ (clr_in g1 g2 g3)).mono ?_
      rintro e w2 ⟨rfl, b2⟩
      have S2 := Lib.hid ((S1.out.next b2).alloc (cbox k f cy cr (cl + a)))
      have S3 := Lib.hid (S2.out.alloc (cbox k f cy cr (cl + a)))
      clear a0 a1 a2 a3 a4
      obtain ⟨a0, a1, a2, a3, a4⟩ := cells5 (S2.out.at 1 rfl)
      obtain ⟨d0, d1, d2, d3, d4⟩ := cells5 (S3.out.at 1 rfl)
      clear b2 S1
      have E := fun w => neq_ctl k f cy cr (cl + a) w
      have n1 : ¬ cl < 0 := by omega
      have n2 : ¬ 1048576 < cl := by omega
      have n3 : ¬ 1048576 < a := by omega
      have n4 : ¬ 1048576 < cl + a := by omega
      clear hf
      go_wp2_with fail
      clear a0 a1 a2 a3 a4 d0 d1 d2 d3 d4
      generalize (w2.alloc (Obj.cells #[.int .i64 k, .int .i64 f, .int .i64 cy, .int .u32 cr, .int .i64 (cl + a)] 44)).alloc (Obj.cells #[.int .i64 k, .int .i64 f, .int .i64 cy, .int .u32 cr, .int .i64 (cl + a)] 44) = W3 at *
      by_cases hb : b < 0
      · refine (clear_neg k f cy cr (cl + a) b _ hb).mono ?_
        rintro e w4 ⟨rfl, b4⟩
        have S4 := Lib.hid (S3.out.next b4)
        go_wp2
        go_ret
        exact ⟨rfl, (S4.out.alloc _).b⟩
      · by_cases hb2 : 1048576 < b
        · refine (clear_far k f cy cr (cl + a) b _ (clr_far hb (by omega))).mono ?_
          rintro e w4 ⟨rfl, b4⟩
          have S4 := Lib.hid (S3.out.next b4)
          go_wp2
          go_ret
          exact ⟨rfl, (S4.out.alloc _).b⟩
        · have qa : wrap64 (a + b) = a + b := by unfold wrap64; omega
          by_cases hs : cl + a + b ≤ 1048576
          · have R := fun w => clear_ok k f cy cr cl (a + b) w (clr_in (by omega) g2 (by omega))
            rw [show cl + (a + b) = cl + a + b by omega] at R
            have HR := Lib.hid R
            clear R
            refine (clear_ok k f cy cr (cl + a) b _ (clr_in (by omega) (by omega) hs)).mono ?_
            rintro e w4 ⟨rfl, b4⟩
            generalize hz : cl + a + b = z at *
            have S4 := Lib.hid ((S3.out.next b4).alloc (cbox k f cy cr z))
            obtain ⟨a0, a1, a2, a3, a4⟩ := cells5 (S4.out.at 3 rfl)
            have E2 := fun w => eql_ctl k f cy cr z w
            clear b4 S3 S2 E hz hs
            go_wp2_with fail
            refine (HR.out _).mono ?_
            rintro e w5 ⟨rfl, b5⟩
            have S5 := Lib.hid ((S4.out.next b5).alloc (cbox k f cy cr z))
            obtain ⟨d0, d1, d2, d3, d4⟩ := cells5 (S5.out.at 1 rfl)
            clear b5 a0 a1 a2 a3 a4
            go_wp2
            go_ret
            exact ⟨rfl, S5.out.b⟩
          · have HR := Lib.hid (fun w => clear_far k f cy cr cl (a + b) w (clr_far (by omega) (by omega)))
            refine (clear_far k f cy cr (cl + a) b _ (clr_far hb (by omega))).mono ?_
            rintro e w4 ⟨rfl, b4⟩
            have S4 := Lib.hid ((S3.out.next b4).alloc (cbox 0 0 0 0 0))
            obtain ⟨a0, a1, a2, a3, a4⟩ := cells5 (S4.out.at 3 rfl)
            have E2 := fun w => eql_ctl 0 0 0 0 0 w
            clear b4 S3 S2 E hs
            go_wp2_with fail
            refine (HR.out _).mono ?_
            rintro e w5 ⟨rfl, b5⟩
            have S5 := Lib.hid ((S4.out.next b5).alloc (cbox 0 0 0 0 0))
            obtain ⟨d0, d1, d2, d3, d4⟩ := cells5 (S5.out.at 1 rfl)
            clear b5 a0 a1 a2 a3 a4
            go_wp2
            go_ret
            exact ⟨rfl, S5.out.b⟩
set_option maxRecDepth 100000 in
/-- What the walk gives, for every argument and every world. -/
theorem contract (H : Type) (enc : TypeId × Value → H) (W : World) (base : Nat) (args : Array Value) (ds gs : List (DataW H)) (before : List MemPlace)
    (hval : ∀ (j : Nat) t v, Try.f6.params[j]? = some t → args[j]? = some v → Value.okWide Try.prog W .any base t v)
    (hW : DataW.Whole enc Try.prog Try.f6.params.toList Rows.wireClearsSpec.vars false W args.toList ds gs before) : 
    Calls Try.prog 6 args W fun e W' => ∃ v, e = .returned v ∧ Rows.wireClearsSpec.post enc Try.prog Try.f6 false true false false W args v W' := by
  have hW' := hW
  obtain ⟨p, q, hA0, hV, rfl, hfz, hnd⟩ := hW
  have hA : DataW.TrodAll enc Try.prog W 0 (fun _ => true) true Try.f6.params.toList args.toList ds p := hA0
  rw [Try.params6] at hA hval
  obtain ⟨v0, vs0, d0, ds0, p0, q0, hargs, rfl, rfl, h0, r0⟩ := trodAll_cons hA
  obtain ⟨v1, vs1, d1, ds1, p1, q1, rfl, rfl, rfl, h1, r1⟩ := trodAll_cons r0
  obtain ⟨v2, vs2, d2, ds2, p2, q2, rfl, rfl, rfl, h2, r2⟩ := trodAll_cons r1
  obtain ⟨rfl, rfl, rfl⟩ := trodAll_nil r2
  obtain rfl : args = #[v0, v1, v2] := by cases args; simp_all
  obtain ⟨rfl, rfl⟩ := trodVars_none hV
  obtain ⟨k0, f0, cy0, cr0, cl0, rfl, hcr0⟩ := open_ctl (hval 0 44 v0 rfl rfl) h0
  obtain ⟨a, rfl, rfl, rfl, w1⟩ := open_int Try.underlying2 (hval 1 2 v1 rfl rfl) h1
  obtain ⟨b, rfl, rfl, rfl, w2⟩ := open_int Try.underlying2 (hval 2 2 v2 rfl rfl) h2
  refine (walk k0 f0 cy0 cr0 cl0 a b W).mono fun e W' ⟨he, hb⟩ => ?_
  exact ⟨_, he, Shell.post_law laidOut (by kernel_rfl) rfl Try.underlying4 rfl hW' rfl hb⟩
theorem reads (os : Os) {H : Type} (enc : TypeId × Value → H) : ∃ places, DataW.whole enc Try.prog ((World.holding Try.prog os ⟨#[], #[], []⟩).forCall (fun _ _ => 0) ⟨#[], #[.agg #[.int .i64 0, .int .i64 0, .int .i64 0, .int .u32 0, .int .i64 0], .int .i64 0, .int .i64 0], []⟩).memory Try.f6.params.toList Rows.wireClearsSpec.vars false (#[Value.agg #[.int .i64 0, .int .i64 0, .int .i64 0, .int .u32 0, .int .i64 0], Value.int .i64 0, Value.int .i64 0]).toList 8 = some ([.agg [.lit (.int .i64 0), .lit (.int .i64 0), .lit (.int .i64 0), .lit (.int .u32 0), .lit (.int .i64 0)], .lit (.int .i64 0), .lit (.int .i64 0)], [], places) :=
  ⟨[], by kernel_rfl⟩
set_option maxRecDepth 100000 in
theorem lifted (os : Os) (started : os.Started) (H : Type) (enc : TypeId × Value → H) (F : Stop.Interp) :
    ReturnsInHanded {} Try.checked os 6 .any ((OpenSpec.ofChange Rows.wireClearsSpec).preRow enc Try.prog Try.f6 Rows.wireClearsRow.domain false Rows.wireClearsRow.laid) (((OpenSpec.ofChange Rows.wireClearsSpec).at F).post enc Try.prog Try.f6 false true false false) := by
  obtain ⟨places, hx⟩ := reads os enc
  refine returnsInHanded_of_row (C := Try.checked) (s := OpenSpec.ofChange Rows.wireClearsSpec) own started (by kernel_rfl) Try.func6
    (witness_row_atRef (enc := enc) (C := Try.checked) false (World.holding Try.prog os ⟨#[], #[], []⟩) #[.agg #[.int .i64 0, .int .i64 0, .int .i64 0, .int .u32 0, .int .i64 0], .int .i64 0, .int .i64 0] rfl (by kernel_rfl) (by kernel_rfl) (by kernel_rfl)
      (OpenSpec.preRow_of_cond 8 hx (by kernel_rfl) (fun k hk => by cases hk) (by kernel_rfl) (laid_met os _))) ?_
  intro W base args ds gs before hval hW _ _ _ hL _ _
  exact contract H enc W base args ds gs before hval hW
theorem said : Rows.WireClearsSaid :=
  OpenClaim.holds_of_cond 6 Try.f6 rfl rfl rfl rfl rfl rfl rfl ⟨rfl, rfl, rfl, rfl, rfl⟩ rfl rfl rfl rfl rfl (by kernel_rfl) Try.func6 (by kernel_rfl)
    (of_decide_eq_true (by kernel_rfl)) (by unfold Func.isWrapper; first | (rw [if_pos (by decide +kernel)]; kernel_rfl) | (rw [if_neg (by decide +kernel)]; exact ⟨rfl, rfl⟩))
    (fun os started H enc _ F => by rw [OpenClaim.pre_eq_preRow]; exact lifted os started H enc F)
end Go.Proofs.Ytkeigfkcoleboaa.WireW.WireClears
