/- The law BucketFair: frames that come a gap apart, or more, all pass: for all gaps, jitters and distances. No condition. -/
import Derived.Test.YtokddpialnkckaaBucketLay
namespace Go.Proofs.Ytokddpialnkckaa.BucketW.BucketFair
open Go.ChangeShapes Go.WideShapes Go.ChangeAt Go.RowKit BucketW Shell
/-- What holds at the frame i, that is to come at t. -/
def J (g : Int) (s : Bk) (i : Nat) (t : Int) : Prop := s.n = i ∧ s.r = 0 ∧ -5 ≤ t ∧ t ≤ 1125900980650000 ∧ (s.n = 0 ∨ (s.m = s.l + g ∧ s.l + g ≤ t))
theorem J.step {g j : Int} {s : Bk} {i : Nat} {t x : Int} (h : J g s i t) (hr : rgt g j = true) (ht : t ≤ 1125899906842624) (hx : 0 ≤ x ∧ x ≤ 65535) : pas j s t = true ∧ (tk g j s t).n = i + 1 ∧ (tk g j s t).r = 0 ∧ J g (tk g j s t) (i + 1) (t + (g + x)) := by
  obtain ⟨h1, h2, h3, h4, h5⟩ := h
  obtain ⟨⟨g0, g1⟩, j0, j1⟩ := rgt_iff.1 hr
  obtain ⟨o1, o2⟩ := fair_ok (l := s.l) j0 g0 (far_iff.2 ⟨by omega, ht⟩) h5
  have hp : pas j s t = true := o1
  rw [tk_yes hp]
  refine ⟨hp, by dsimp only; omega, h2, ?_⟩
  refine ⟨by dsimp only; omega, h2, by omega, by omega, Or.inr ⟨o2, by dsimp only; omega⟩⟩
set_option maxHeartbeats 4000000 in
set_option maxRecDepth 100000 in
theorem walk (g j : Int) (A : Option Addr) (xs : List Int) (c : Nat) (w : World) (hA : CL w .u16 A xs) (hl : xs.length ≤ 281474976710656) :
    Calls Try.prog 5 #[.int .i64 g, .int .i64 j, .slice A xs.length c] w fun e w' => e = .returned (.bool true) ∧ Below w.heap.size w w' := by
  have HA := Lib.hid hA
  have HL := Lib.hid hl
  clear hA hl
  go_enter Try.func5, Try.ntmps5
  go_wp2_with fail
  refine (fixed_any _).mono ?_
  rintro e w1 ⟨rfl, b1⟩
  have S1 := Lib.hid ((Stay.start w).next b1)
  clear b1
  cases hr : rgt g j with
  | false =>
    go_wp2_with fail
    refine (new_bad g j hr _).mono ?_
    rintro e w' ⟨rfl, rfl⟩
    go_wp2
    go_ret
    exact ⟨rfl, S1.out.b⟩
  | true =>
    go_wp2_with fail
    refine (pb_new S1.out g j hr).mono ?_
    rintro e w2 ⟨rfl, p2, -⟩
    have P2 := Lib.hid p2
    have HR := Lib.hid hr
    generalize hk : w1.heap.size = k at *
    clear S1 p2 hk hr
    go_upto_region 8 with (fail)
    go_loopw [9, 26] (fun tv iv wr => ∃ (i : Nat) (t : Int) (s : Bk), tv = .int .i64 t ∧ iv = .int .i64 i ∧ i ≤ xs.length ∧ Hid (J g s i t) ∧ Hid (PB w [] k g j s wr)) (fun _ iv _ => xs.length - (intOf iv).toNat)
    case atStart => exact ⟨0, -5, b0, rfl, rfl, Nat.zero_le _, Lib.hid ⟨rfl, rfl, by decide, by decide, Or.inl rfl⟩, P2⟩
    case round =>
      clear P2
      obtain ⟨i, t, s, rfl, rfl, hi, HJ, HP⟩ := hrel
      by_cases hil : i < xs.length
      · obtain ⟨x, hx⟩ : ∃ x, xs[i]? = some x := ⟨_, List.getElem?_eq_getElem hil⟩
        obtain ⟨a, rfl, hc, hw⟩ := HA.out.below HP.out.st.b i x hx
        have xb := u16_wf hw
        by_cases ht : 1125899906842624 < t
        · go_wp2
          go_ret
          exact ⟨rfl, HP.out.st.b⟩
        · obtain ⟨q1, q2, q3, q4⟩ := HJ.out.step HR.out (by omega) xb
          have tb := HJ.out.2.2.1
          have gb := (rgt_iff.1 HR.out).1
          have sb : s.n + s.r < 4611686018427387904 := by have := HJ.out.1; have := HJ.out.2.1; have := HL.out; omega
          have e1 : IntKind.i64.wrap x = x := by rw [IntKind.wrap_i64]; omega
          have e2 : IntKind.i64.wrap (g + x) = g + x := by rw [IntKind.wrap_i64]; omega
          obtain ⟨T, hT⟩ : ∃ T, t + (g + x) = T := ⟨_, rfl⟩
          have e3 : IntKind.i64.wrap (t + (g + x)) = T := by rw [hT, IntKind.wrap_i64]; omega
          rw [hT] at q4
          clear hT
          have HQ := Lib.hid q1
          have HQ4 := Lib.hid q4
          have HT := Lib.hid (HP.out.take t sb)
          generalize tk g j s t = s' at *
          obtain ⟨i', hi'⟩ : ∃ i', i + 1 = i' := ⟨_, rfl⟩
          have ei : (i : Int) + 1 = (i' : Int) := by omega
          have HI := Lib.hid hi'
          have HN := Lib.hid (show (s'.n : Int) = (i' : Int) by omega)
          have HZ := Lib.hid (show (s'.r : Int) = 0 by omega)
          have w1 : IntKind.i64.wrap (i' : Int) = (i' : Int) := by have := HL.out; rw [IntKind.wrap_i64]; omega
          rw [hi'] at HQ4
          clear hi'
          clear q1 q2 q3 q4 tb gb sb xb hw hx HJ HP
          go_wp2_with fail
          refine HT.out.mono ?_
          rintro e w3 ⟨rfl, p3, -⟩
          rw [HQ.out]
          have P3 := Lib.hid p3
          clear p3 HT HQ hc
          go_wp2_with fail
          refine P3.out.passed.mono ?_
          rintro e w' ⟨rfl, rfl⟩
          rw [HN.out]
          go_wp2_with fail
          refine P3.out.refused.mono ?_
          rintro e w' ⟨rfl, rfl⟩
          rw [HZ.out]
          go_wp2
          go_roundw
          case rel => exact ⟨i', T, s', rfl, rfl, by clear e1 e2 e3 w1 ei; have := HI.out; omega, HQ4, P3⟩
          case measure => have := HI.out; simp only [intOf]; clear e1 e2 e3 w1 ei; omega
      · go_wp2
        go_ret
        exact ⟨rfl, HP.out.st.b⟩
set_option maxRecDepth 100000 in
/-- What the walk gives, for every argument and every world. -/
theorem contract (H : Type) (enc : TypeId × Value → H) (W : World) (base : Nat) (args : Array Value) (ds gs : List (DataW H)) (before : List MemPlace)
    (hval : ∀ (j : Nat) t v, Try.f5.params[j]? = some t → args[j]? = some v → Value.okWide Try.prog W .any base t v)
    (hW : DataW.Whole enc Try.prog Try.f5.params.toList Rows.bucketFairSpec.vars false W args.toList ds gs before) (hz : (DataW.weightsEach Try.prog (Try.f5.params.toList ++ (OpenSpec.ofChange Rows.bucketFairSpec).bare.plain.varTypes Try.prog) (ds ++ gs)).all (· ≤ reachBytes) = true) : 
    Calls Try.prog 5 args W fun e W' => ∃ v, e = .returned v ∧ Rows.bucketFairSpec.post enc Try.prog Try.f5 false true false false W args v W' := by
  have hW' := hW
  obtain ⟨p, q, hA0, hV, rfl, hfz, hnd⟩ := hW
  have hA : DataW.TrodAll enc Try.prog W 0 (fun _ => true) true Try.f5.params.toList args.toList ds p := hA0
  rw [Try.params5] at hA hval
  obtain ⟨v0, vs0, d0, ds0, p0, q0, hargs, rfl, rfl, h0, r0⟩ := trodAll_cons hA
  obtain ⟨v1, vs1, d1, ds1, p1, q1, rfl, rfl, rfl, h1, r1⟩ := trodAll_cons r0
  obtain ⟨v2, vs2, d2, ds2, p2, q2, rfl, rfl, rfl, h2, r2⟩ := trodAll_cons r1
  obtain ⟨rfl, rfl, rfl⟩ := trodAll_nil r2
  obtain rfl : args = #[v0, v1, v2] := by cases args; simp_all
  obtain ⟨rfl, rfl⟩ := trodVars_none hV
  obtain ⟨g, rfl, rfl, rfl, w0⟩ := open_int Try.underlying2 (hval 0 2 v0 rfl rfl) h0
  obtain ⟨j, rfl, rfl, rfl, w1⟩ := open_int Try.underlying2 (hval 1 2 v1 rfl rfl) h1
  obtain ⟨A2, xs, c2, rfl, f2, l2, lc2, sz2, nl2⟩ := open_nums Try.underlying39 Try.underlying40 (by kernel_rfl) (hval 2 39 v2 rfl rfl) h2
  have z2 : xs.length * 2 ≤ 140737488351232 := by
    rcases sz2 with h | ⟨es, sp, hd, hl⟩
    · rw [h]; decide
    · have := sized_slice hz (j := 2) (t := 39) (e := 40) (elems := es) (spare := sp) (by rw [Try.params5]; rfl) (by rw [hd]; rfl) Try.underlying39
      rw [show Try.prog.bytesOf 40 = 2 by kernel_rfl, show reachBytes = 140737488351232 from rfl] at this
      omega
  refine (walk g j A2 xs c2 W f2 (by omega)).mono fun e W' ⟨he, hb⟩ => ?_
  exact ⟨_, he, Shell.post_law laidOut (by kernel_rfl) rfl Try.underlying4 rfl hW' rfl hb⟩
theorem reads (os : Os) {H : Type} (enc : TypeId × Value → H) : ∃ places, DataW.whole enc Try.prog ((World.holding Try.prog os ⟨#[], #[], []⟩).forCall (fun _ _ => 0) ⟨#[], #[.int .i64 0, .int .i64 0, .slice none 0 0], []⟩).memory Try.f5.params.toList Rows.bucketFairSpec.vars false (#[Value.int .i64 0, Value.int .i64 0, Value.slice none 0 0]).toList 8 = some ([.lit (.int .i64 0), .lit (.int .i64 0), .nil], [], places) :=
  ⟨[], by kernel_rfl⟩
set_option maxRecDepth 100000 in
theorem lifted (os : Os) (started : os.Started) (H : Type) (enc : TypeId × Value → H) (F : Stop.Interp) :
    ReturnsInHanded {} Try.checked os 5 .any ((OpenSpec.ofChange Rows.bucketFairSpec).preRow enc Try.prog Try.f5 Rows.bucketFairRow.domain false Rows.bucketFairRow.laid) (((OpenSpec.ofChange Rows.bucketFairSpec).at F).post enc Try.prog Try.f5 false true false false) := by
  obtain ⟨places, hx⟩ := reads os enc
  refine returnsInHanded_of_row (C := Try.checked) (s := OpenSpec.ofChange Rows.bucketFairSpec) own started (by kernel_rfl) Try.func5
    (witness_row_atRef (enc := enc) (C := Try.checked) false (World.holding Try.prog os ⟨#[], #[], []⟩) #[.int .i64 0, .int .i64 0, .slice none 0 0] rfl (by kernel_rfl) (by kernel_rfl) (by kernel_rfl)
      (OpenSpec.preRow_of_cond 8 hx (by kernel_rfl) (fun k hk => by cases hk) (by kernel_rfl) (laid_met os _))) ?_
  intro W base args ds gs before hval hW _ _ hz hL _ _
  exact contract H enc W base args ds gs before hval hW hz
theorem said : Rows.BucketFairSaid :=
  OpenClaim.holds_of_cond 5 Try.f5 rfl rfl rfl rfl rfl rfl rfl ⟨rfl, rfl, rfl, rfl, rfl⟩ rfl rfl rfl rfl rfl (by kernel_rfl) Try.func5 (by kernel_rfl)
    (of_decide_eq_true (by kernel_rfl)) (by unfold Func.isWrapper; first | (rw [if_pos (by decide +kernel)]; kernel_rfl) | (rw [if_neg (by decide +kernel)]; exact ⟨rfl, rfl⟩))
    (fun os started H enc _ F => by rw [OpenClaim.pre_eq_preRow]; exact lifted os started H enc F)
end Go.Proofs.Ytokddpialnkckaa.BucketW.BucketFair
