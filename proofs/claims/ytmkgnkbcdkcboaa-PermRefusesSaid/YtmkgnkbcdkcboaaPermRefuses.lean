/- The law PermRefuses: what isn't right, is too old, or doesn't fit is refused, and changes nothing: for all frames, times and numbers of frames ahead. No condition. -/
import Derived.Test.YtmkgnkbcdkcboaaPermFixed
import Derived.Test.YtmkgnkbcdkcboaaPermQ
namespace Go.Proofs.Ytmkgnkbcdkcboaa.PermW.PermRefuses
open Go.ChangeShapes Go.WideShapes Go.ChangeAt Go.RowKit PermW Shell
open QueueW hiding al cell_keep
open ClockW (CK CI tell tell_iff sh wh okN okN_iff)
open FrameW (CV rightC)
theorem tk_right {n : Nat} {i : Int} (h0 : 0 ≤ i) (h1 : i ≤ 80) : tkA 0 0 0 500 n i 2 0 0 0 0 = if 64 ≤ n then (0, 6) else (i + 500, 0) := by
  unfold tkA
  rw [if_neg (not_not_intro (by decide)), if_neg (by decide), du_right h0 (by omega) (by decide) (by decide) (by decide), if_neg (by simp)]
  rfl
set_option maxHeartbeats 4000000 in
set_option maxRecDepth 100000 in
theorem walk (k f y c l : Int) (hc : 0 ≤ c) (t n : Int) (hn : 0 ≤ n ∧ n ≤ 255) (w : World) :
    Calls Try.prog 6 #[CV k f y c l, .int .i64 t, .int .u8 n] w fun e w' => e = .returned (.bool true) ∧ Below w.heap.size w w' := by
  obtain ⟨m, hm⟩ : ∃ m : Nat, n % 80 = (m : Int) := ⟨(n % 80).toNat, by omega⟩
  have hm2 : n.tmod 80 = (m : Int) := by rw [Int.tmod_eq_emod_of_nonneg hn.1, hm]
  have HM := Lib.hid (show m < 80 by omega)
  have HC := Lib.hid hc
  clear hn hc
  have S0 := (Stay.start w).alloc (cbx k f y c l)
  go_enter Try.func6, Try.ntmps6
  go_wp2_with fail
  generalize w.alloc (.cells #[.int .i64 k, .int .i64 f, .int .i64 y, .int .u32 c, .int .i64 l] 37 (0, 0)) = W0 at *
  refine (fixed_any _).mono ?_
  rintro e w1 ⟨rfl, b1⟩
  have S1 := Lib.hid (S0.next b1)
  clear S0 b1
  go_wp2_with fail
  refine (ClockW.new_ok 0 0 0 (by decide) _).mono ?_
  rintro e w2 ⟨rfl, c2, b2⟩
  have S2 := Lib.hid (S1.out.next b2)
  have C2 := Lib.hid c2
  have J0 := Lib.hid S1.out.b.size
  have J1 := Lib.hid (lt_of_heap (S1.out.at 0 rfl))
  clear c2 b2 S1
  go_wp2_with fail
  refine (new_ok 500 (by decide) _).mono ?_
  rintro e w3 ⟨g, rfl, hg, hk, b3⟩
  have P1 := Lib.hid (PW.mk0 (w0 := w) (S2.out.next b3) hk (C2.out.below b3) ci0 S2.out.b.size J0.out (by have := C2.out.lt; omega) (by have := C2.out.lt; omega) (fun x hx => by
    rcases List.mem_singleton.1 hx with rfl
    have := C2.out.lt; have := J1.out
    constructor
    · show w.heap.size ≠ _; omega
    · show w.heap.size ≠ _; omega))
  generalize w2.heap.size = q at *
  generalize w1.heap.size = j at *
  clear hg hk b3 C2 S2 J0 J1
  go_wp2
  go_loopw [38] (fun iv wr => ∃ i : Nat, iv = .int .i64 i ∧ Hid (i ≤ m) ∧ Hid (∃ S N, S.length = min i 64 ∧ N ≤ i ∧ PW w [(w.heap.size, cbx k f y c l)] g q j 500 0 0 0 S N none [] wr)) (fun iv _ => (m - intOf iv).toNat)
  case atStart => exact ⟨0, rfl, Lib.hid (Nat.zero_le _), Lib.hid ⟨[], 0, rfl, Nat.le_refl _, P1.out⟩⟩
  case round =>
    clear P1
    obtain ⟨i, rfl, HI, HP⟩ := hrel
    obtain ⟨S, N, hS, hN, P⟩ := HP.out
    have HS := Lib.hid hS
    have HN := Lib.hid hN
    have P := Lib.hid P
    clear HP hS hN
    by_cases hlt : (i : Int) < (m : Int)
    · by_cases h64 : (i : Int) < 64
      · have T1 := Lib.hid (P.out.takeY i 2 0 0 0 0 (by decide) (by have := HN.out; have := HI.out; have := HM.out; omega) (i + 500) (by rw [tk_right (by omega) (by have := HM.out; omega), if_neg (by have := HS.out; omega)]))
        go_wp2_with fail
        refine T1.out.mono ?_
        rintro e w4 ⟨rfl, p, -, P2⟩
        have P2 := Lib.hid P2
        clear T1 P
        go_wp2
        go_roundw
        case rel => exact ⟨i + 1, by simp, Lib.hid (by omega), Lib.hid ⟨_, _, by rw [ins_length]; have := HS.out; omega, by have := HN.out; omega, P2.out⟩⟩
        case measure => simp only [intOf]; omega
      · have T1 := Lib.hid (P.out.takeN i 2 0 0 0 0 (by decide) (by have := HN.out; have := HI.out; have := HM.out; omega) 0 6 (by rw [tk_right (by omega) (by have := HM.out; omega), if_pos (by have := HS.out; omega)]) (by decide))
        go_wp2_with fail
        refine T1.out.mono ?_
        rintro e w4 ⟨rfl, P2⟩
        have P2 := Lib.hid P2
        clear T1 P
        go_wp2
        go_roundw
        case rel => exact ⟨i + 1, by simp, Lib.hid (by omega), Lib.hid ⟨_, _, by have := HS.out; omega, by have := HN.out; omega, P2.out⟩⟩
        case measure => simp only [intOf]; omega
    · obtain ⟨d0, d1, d2, d3, d4⟩ := cells5 (P.out.st.at 0 rfl)
      obtain ⟨x, hx⟩ : ∃ x, tkA 0 0 0 500 S.length t k f y c l = x := ⟨_, rfl⟩
      obtain ⟨x0, x1⟩ := x
      have NN := Lib.hid (show N < 4611686018427387904 by have := HN.out; have := HI.out; have := HM.out; omega)
      have LN := Lib.hid P.out.len
      have SL : ((S.length : Nat) : Int) ≤ 64 := by have := P.out.few; omega
      obtain ⟨sl, hsl⟩ : ∃ sl : Nat, S.length = sl := ⟨_, rfl⟩
      have HSL := Lib.hid hsl
      rw [hsl] at LN SL
      clear hsl
      by_cases h1 : x1 = 0
      · subst h1
        have T1 := Lib.hid (P.out.takeY t k f y c l HC.out NN.out x0 hx)
        clear hx
        go_wp2_with (go_at_call 19; (with_reducible refine LN.out.mono ?_); rintro e w' ⟨rfl, hw⟩; obtain rfl := hw.symm)
        refine T1.out.mono ?_
        rintro e w4 ⟨rfl, p, -, P2⟩
        have LN2 := P2.len
        rw [ins_length, HSL.out] at LN2
        have LN2 := Lib.hid LN2
        have P2 := Lib.hid P2
        clear T1 d0 d1 d2 d3 d4 P LN
        go_wp2_with (first
          | (go_at_call 19; (with_reducible refine LN2.out.mono ?_); rintro e w' ⟨rfl, hw⟩; obtain rfl := hw.symm)
          | (go_at_call 11; refine (take_nil _ _ _ _ _ _ _ _).mono ?_; rintro e w5 ⟨rfl, b5⟩; have B5 := Lib.hid b5; clear b5)
          | (go_at_call 18; refine (next_nil _).mono ?_; rintro e w' ⟨rfl, hw⟩; obtain rfl := hw.symm)
          | (go_at_call 13; refine (give_nil _ _).mono ?_; rintro e w6 ⟨rfl, b6⟩; have B6 := Lib.hid b6; clear b6)
          | (go_at_call 19; refine (len_nil _).mono ?_; rintro e w' ⟨rfl, hw⟩; obtain rfl := hw.symm))
        go_ret
        exact ⟨rfl, (((P2.out.next B5.out).next B6.out).alloc (cbx 0 0 0 0 0)).st.b⟩
      · have T1 := Lib.hid (P.out.takeN t k f y c l HC.out NN.out x0 x1 hx h1)
        clear hx
        go_wp2_with (go_at_call 19; (with_reducible refine LN.out.mono ?_); rintro e w' ⟨rfl, hw⟩; obtain rfl := hw.symm)
        refine T1.out.mono ?_
        rintro e w4 ⟨rfl, P2⟩
        have LN2 := P2.len
        rw [HSL.out] at LN2
        have LN2 := Lib.hid LN2
        have P2 := Lib.hid P2
        clear T1 d0 d1 d2 d3 d4 P LN
        go_wp2_with (first
          | (go_at_call 19; (with_reducible refine LN2.out.mono ?_); rintro e w' ⟨rfl, hw⟩; obtain rfl := hw.symm)
          | (go_at_call 11; refine (take_nil _ _ _ _ _ _ _ _).mono ?_; rintro e w5 ⟨rfl, b5⟩; have B5 := Lib.hid b5; clear b5)
          | (go_at_call 18; refine (next_nil _).mono ?_; rintro e w' ⟨rfl, hw⟩; obtain rfl := hw.symm)
          | (go_at_call 13; refine (give_nil _ _).mono ?_; rintro e w6 ⟨rfl, b6⟩; have B6 := Lib.hid b6; clear b6)
          | (go_at_call 19; refine (len_nil _).mono ?_; rintro e w' ⟨rfl, hw⟩; obtain rfl := hw.symm))
        go_ret
        exact ⟨rfl, (((P2.out.next B5.out).next B6.out).alloc (cbx 0 0 0 0 0)).st.b⟩
set_option maxRecDepth 100000 in
/-- What the walk gives, for every argument and every world. -/
theorem contract (H : Type) (enc : TypeId × Value → H) (W : World) (base : Nat) (args : Array Value) (ds gs : List (DataW H)) (before : List MemPlace)
    (hval : ∀ (j : Nat) t v, Try.f6.params[j]? = some t → args[j]? = some v → Value.okWide Try.prog W .any base t v)
    (hW : DataW.Whole enc Try.prog Try.f6.params.toList Rows.permRefusesSpec.vars false W args.toList ds gs before) : 
    Calls Try.prog 6 args W fun e W' => ∃ v, e = .returned v ∧ Rows.permRefusesSpec.post enc Try.prog Try.f6 false true false false W args v W' := by
  have hW' := hW
  obtain ⟨p, q, hA0, hV, rfl, hfz, hnd⟩ := hW
  have hA : DataW.TrodAll enc Try.prog W 0 (fun _ => true) true Try.f6.params.toList args.toList ds p := hA0
  rw [Try.params6] at hA hval
  obtain ⟨v0, vs0, d0, ds0, p0, q0, hargs, rfl, rfl, h0, r0⟩ := trodAll_cons hA
  obtain ⟨v1, vs1, d1, ds1, p1, q1, rfl, rfl, rfl, h1, r1⟩ := trodAll_cons r0
  obtain ⟨v2, vs2, d2, ds2, p2, q2, rfl, rfl, rfl, h2, r2⟩ := trodAll_cons r1
  obtain ⟨rfl, rfl, rfl⟩ := trodAll_nil r2
  obtain rfl : args = #[v0, v1, v2] := by cases args; simp_all
  obtain ⟨rfl, rfl⟩ := trodVars_none hV
  obtain ⟨k0, f0, cy0, cr0, cl0, rfl, hcr0⟩ := FrameW.open_ctl (hval 0 37 v0 rfl rfl) h0
  obtain ⟨t, rfl, rfl, rfl, w1⟩ := open_int Try.underlying2 (hval 1 2 v1 rfl rfl) h1
  obtain ⟨n, rfl, rfl, rfl, w2⟩ := open_int Try.underlying5 (hval 2 5 v2 rfl rfl) h2
  refine (walk k0 f0 cy0 cr0 cl0 hcr0 t n (u8_wf w2) W).mono fun e W' ⟨he, hb⟩ => ?_
  exact ⟨_, he, Shell.post_law laidOut (by kernel_rfl) rfl Try.underlying4 rfl hW' rfl hb⟩
theorem reads (os : Os) {H : Type} (enc : TypeId × Value → H) : ∃ places, DataW.whole enc Try.prog ((World.holding Try.prog os ⟨#[], #[], []⟩).forCall (fun _ _ => 0) ⟨#[], #[.agg #[.int .i64 0, .int .i64 0, .int .i64 0, .int .u32 0, .int .i64 0], .int .i64 0, .int .u8 0], []⟩).memory Try.f6.params.toList Rows.permRefusesSpec.vars false (#[Value.agg #[.int .i64 0, .int .i64 0, .int .i64 0, .int .u32 0, .int .i64 0], Value.int .i64 0, Value.int .u8 0]).toList 8 = some ([.agg [.lit (.int .i64 0), .lit (.int .i64 0), .lit (.int .i64 0), .lit (.int .u32 0), .lit (.int .i64 0)], .lit (.int .i64 0), .lit (.int .u8 0)], [], places) :=
  ⟨[], by kernel_rfl⟩
set_option maxRecDepth 100000 in
theorem lifted (os : Os) (started : os.Started) (H : Type) (enc : TypeId × Value → H) (F : Stop.Interp) :
    ReturnsInHanded {} Try.checked os 6 .any ((OpenSpec.ofChange Rows.permRefusesSpec).preRow enc Try.prog Try.f6 Rows.permRefusesRow.domain false Rows.permRefusesRow.laid) (((OpenSpec.ofChange Rows.permRefusesSpec).at F).post enc Try.prog Try.f6 false true false false) := by
  obtain ⟨places, hx⟩ := reads os enc
  refine returnsInHanded_of_row (C := Try.checked) (s := OpenSpec.ofChange Rows.permRefusesSpec) own started (by kernel_rfl) Try.func6
    (witness_row_atRef (enc := enc) (C := Try.checked) false (World.holding Try.prog os ⟨#[], #[], []⟩) #[.agg #[.int .i64 0, .int .i64 0, .int .i64 0, .int .u32 0, .int .i64 0], .int .i64 0, .int .u8 0] rfl (by kernel_rfl) (by kernel_rfl) (by kernel_rfl)
      (OpenSpec.preRow_of_cond 8 hx (by kernel_rfl) (fun k hk => by cases hk) (by kernel_rfl) (laid_met os _))) ?_
  intro W base args ds gs before hval hW _ _ _ hL _ _
  exact contract H enc W base args ds gs before hval hW
theorem said : Rows.PermRefusesSaid :=
  OpenClaim.holds_of_cond 6 Try.f6 rfl rfl rfl rfl rfl rfl rfl ⟨rfl, rfl, rfl, rfl, rfl⟩ rfl rfl rfl rfl rfl (by kernel_rfl) Try.func6 (by kernel_rfl)
    (of_decide_eq_true (by kernel_rfl)) (by unfold Func.isWrapper; first | (rw [if_pos (by decide +kernel)]; kernel_rfl) | (rw [if_neg (by decide +kernel)]; exact ⟨rfl, rfl⟩))
    (fun os started H enc _ F => by rw [OpenClaim.pre_eq_preRow]; exact lifted os started H enc F)
end Go.Proofs.Ytmkgnkbcdkcboaa.PermW.PermRefuses
