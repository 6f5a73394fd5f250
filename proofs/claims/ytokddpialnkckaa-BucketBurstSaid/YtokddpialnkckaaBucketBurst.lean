/- The law BucketBurst: at one time just as many frames pass as the budget of no time at all says: for all gaps, jitters and times that the law draws. No condition. -/
import Derived.Test.YtokddpialnkckaaBucketLay
namespace Go.Proofs.Ytokddpialnkckaa.BucketW.BucketBurst
open Go.ChangeShapes Go.WideShapes Go.ChangeAt Go.RowKit BucketW Shell
/-- What holds behind n frames at one time t. -/
def J (g t : Int) (s : Bk) (n : Nat) : Prop := s.n = n ∧ s.r = 0 ∧ (s.n = 0 ∨ s.l = t) ∧ (s.n = 0 ∨ s.m = t + (s.n : Int) * g)
theorem J.ask {g j t : Int} {s : Bk} {n : Nat} (h : J g t s n) (hr : rgt g j = true) (ht : far t = false) : pas j s t = true ↔ n = 0 ∨ (n : Int) ≤ j / g := by
  obtain ⟨h1, h2, h3, h4⟩ := h
  obtain ⟨⟨g0, g1⟩, j0, j1⟩ := rgt_iff.1 hr
  have o := burst_ok (j := j) g0 ht h4
  subst h1
  rw [← o]
  unfold pas
  rcases h3 with h3 | h3
  · rw [okB_iff, okB_iff]
    simp [h3]
  · rw [h3]
theorem J.step {g j t : Int} {s : Bk} {n : Nat} (h : J g t s n) (hr : rgt g j = true) (hp : pas j s t = true) : J g t (tk g j s t) (n + 1) := by
  obtain ⟨h1, h2, h3, h4⟩ := h
  obtain ⟨⟨g0, g1⟩, j0, j1⟩ := rgt_iff.1 hr
  rw [tk_yes hp]
  exact ⟨by dsimp only; omega, h2, Or.inr rfl, Or.inr (burst_mk g0 h4)⟩
set_option maxHeartbeats 4000000 in
set_option maxRecDepth 100000 in
theorem walk (g0 j t : Int) (w : World) (hg : 0 ≤ g0 ∧ g0 ≤ 65535) (hj : 0 ≤ j ∧ j ≤ 65535) (ht : -2147483648 ≤ t ∧ t ≤ 2147483647) :
    Calls Try.prog 8 #[.int .u16 g0, .int .u16 j, .int .i32 t] w fun e w' => e = .returned (.bool true) ∧ Below w.heap.size w w' := by
  obtain ⟨g, hG⟩ : ∃ g, g0 + 1 = g := ⟨_, rfl⟩
  have hr : rgt g j = true := rgt_iff.2 ⟨⟨by omega, by omega⟩, by omega, by omega⟩
  have hf : far t = false := far_iff.2 ⟨by omega, by omega⟩
  have q0 : 0 ≤ j / g := Int.ediv_nonneg (by omega) (by omega)
  have q1 : j / g ≤ j := Int.ediv_le_self _ (by omega)
  have hB : bud g j 0 = 1 + j / g := by unfold bud; rw [if_pos ⟨hr, by omega, by omega⟩, Int.zero_add]
  have e0 : IntKind.i64.wrap g0 = g0 := by rw [IntKind.wrap_i64]; omega
  have e1 : IntKind.i64.wrap g = g := by rw [IntKind.wrap_i64]; omega
  have e2 : IntKind.i64.wrap j = j := by rw [IntKind.wrap_i64]; omega
  have e3 : IntKind.i64.wrap t = t := by rw [IntKind.wrap_i64]; omega
  have HR := Lib.hid hr
  have HF := Lib.hid hf
  have HJ := Lib.hid hj
  obtain ⟨Q, hQ⟩ : ∃ Q : Nat, j / g = (Q : Int) := ⟨(j / g).toNat, by omega⟩
  have HQ := Lib.hid (show Q ≤ 65535 by omega)
  have HD := Lib.hid hQ
  rw [hQ] at hB
  obtain ⟨N, hN⟩ : ∃ N, Q + 1 = N := ⟨_, rfl⟩
  have HM := Lib.hid hN
  have HB := Lib.hid (show bud g j 0 = (N : Int) by omega)
  clear hN
  clear hr hf q0 q1 hB hg hj ht hQ
  go_enter Try.func8, Try.ntmps8
  go_wp2_with fail
  refine (fixed_any _).mono ?_
  rintro e w1 ⟨rfl, b1⟩
  have S1 := Lib.hid ((Stay.start w).next b1)
  clear b1
  go_wp2_with fail
  refine (pb_new S1.out g j HR.out).mono ?_
  rintro e w2 ⟨rfl, p2, -⟩
  have P2 := Lib.hid p2
  generalize hk : w1.heap.size = k at *
  clear S1 p2 hk
  go_wp2_with fail
  go_loopw [10] (fun nv wr => ∃ (n : Nat) (s : Bk), nv = .int .i64 n ∧ Hid (n ≤ Q + 1) ∧ Hid (J g t s n) ∧ Hid (PB w [] k g j s wr)) (fun nv _ => Q + 1 - (intOf nv).toNat)
  case atStart => exact ⟨0, b0, rfl, Lib.hid (Nat.zero_le _), Lib.hid ⟨rfl, rfl, Or.inl rfl, Or.inl rfl⟩, P2⟩
  case round =>
    clear P2
    obtain ⟨n, s, rfl, HN, HS, HP⟩ := hrel
    have n1 : (n : Int) ≤ 70000 := by have := HN.out; have := HQ.out; omega
    have sb : s.n + s.r < 4611686018427387904 := by have := HS.out.1; have := HS.out.2.1; omega
    have HT := Lib.hid (HP.out.take t sb)
    have HA := Lib.hid (HS.out.ask HR.out HF.out)
    cases hp : pas j s t with
    | true =>
      rw [hp] at HT
      have HS' := Lib.hid (HS.out.step HR.out hp)
      have hn : n ≤ Q := by
        have := HA.out.1 hp
        rw [HD.out] at this
        omega
      have HH := Lib.hid hn
      have w1 : IntKind.i64.wrap ((n : Int) + 1) = (n : Int) + 1 := by rw [IntKind.wrap_i64]; omega
      clear hp HA sb HP hn
      go_wp2_with fail
      refine HT.out.mono ?_
      rintro e w3 ⟨rfl, p3, -⟩
      have P3 := Lib.hid p3
      clear p3 HT
      go_wp2
      go_roundw
      case rel => exact ⟨n + 1, _, by simp, Lib.hid (by have := HH.out; omega), HS', P3⟩
      case measure => have := HH.out; simp only [intOf]; clear e0 e1 e2 e3 w1; omega
    | false =>
      rw [hp] at HT
      have hn : n = N := by
        have h1 : ¬(n = 0 ∨ (n : Int) ≤ j / g) := fun h => by rw [HA.out.2 h] at hp; cases hp
        rw [HD.out] at h1
        have := HN.out
        have := HM.out
        omega
      subst hn
      have hnx := (nx_ok (t := t) HP.out.ft HF.out).1
      have hne : nxt j (tk g j s t) t ≠ t := by
        rw [tk_no hp]
        intro e
        have : okB j s.n s.l s.m t = true := (nx_eq HF.out).1 e
        rw [show pas j s t = okB j s.n s.l s.m t from rfl, this] at hp
        cases hp
      have hge : t < nxt j (tk g j s t) t := by
        rw [tk_no hp] at hne ⊢
        have : t ≤ nxt j ⟨s.n, s.l, s.m, s.r + 1⟩ t := hnx
        omega
      generalize tk g j s t = s' at *
      generalize hz : nxt j s' t = z at *
      have HZ := Lib.hid hz
      clear hp HA sb HP hnx hne HS HN hz
      go_wp2_with fail
      refine HT.out.mono ?_
      rintro e w3 ⟨rfl, p3, -⟩
      have P3 := Lib.hid p3
      clear p3 HT
      go_wp2_with fail
      refine (budget_any g j 0 _).mono ?_
      rintro e w' ⟨rfl, rfl⟩
      rw [HB.out]
      go_wp2_with fail
      refine (P3.out.nextT t).mono ?_
      rintro e w4 ⟨rfl, b4⟩
      rw [HZ.out]
      have S4 := Lib.hid (P3.out.st.next b4)
      clear b4
      go_wp2
      go_ret
      exact ⟨rfl, S4.out.b⟩
set_option maxRecDepth 100000 in
/-- What the walk gives, for every argument and every world. -/
theorem contract (H : Type) (enc : TypeId × Value → H) (W : World) (base : Nat) (args : Array Value) (ds gs : List (DataW H)) (before : List MemPlace)
    (hval : ∀ (j : Nat) t v, Try.f8.params[j]? = some t → args[j]? = some v → Value.okWide Try.prog W .any base t v)
    (hW : DataW.Whole enc Try.prog Try.f8.params.toList Rows.bucketBurstSpec.vars false W args.toList ds gs before) : 
    Calls Try.prog 8 args W fun e W' => ∃ v, e = .returned v ∧ Rows.bucketBurstSpec.post enc Try.prog Try.f8 false true false false W args v W' := by
  have hW' := hW
  obtain ⟨p, q, hA0, hV, rfl, hfz, hnd⟩ := hW
  have hA : DataW.TrodAll enc Try.prog W 0 (fun _ => true) true Try.f8.params.toList args.toList ds p := hA0
  rw [Try.params8] at hA hval
  obtain ⟨v0, vs0, d0, ds0, p0, q0, hargs, rfl, rfl, h0, r0⟩ := trodAll_cons hA
  obtain ⟨v1, vs1, d1, ds1, p1, q1, rfl, rfl, rfl, h1, r1⟩ := trodAll_cons r0
  obtain ⟨v2, vs2, d2, ds2, p2, q2, rfl, rfl, rfl, h2, r2⟩ := trodAll_cons r1
  obtain ⟨rfl, rfl, rfl⟩ := trodAll_nil r2
  obtain rfl : args = #[v0, v1, v2] := by cases args; simp_all
  obtain ⟨rfl, rfl⟩ := trodVars_none hV
  obtain ⟨g, rfl, rfl, rfl, w0⟩ := open_int Try.underlying40 (hval 0 40 v0 rfl rfl) h0
  obtain ⟨j, rfl, rfl, rfl, w1⟩ := open_int Try.underlying40 (hval 1 40 v1 rfl rfl) h1
  obtain ⟨t, rfl, rfl, rfl, w2⟩ := open_int Try.underlying21 (hval 2 21 v2 rfl rfl) h2
  refine (walk g j t W (u16_wf w0) (u16_wf w1) (i32_wf w2)).mono fun e W' ⟨he, hb⟩ => ?_
  exact ⟨_, he, Shell.post_law laidOut (by kernel_rfl) rfl Try.underlying4 rfl hW' rfl hb⟩
theorem reads (os : Os) {H : Type} (enc : TypeId × Value → H) : ∃ places, DataW.whole enc Try.prog ((World.holding Try.prog os ⟨#[], #[], []⟩).forCall (fun _ _ => 0) ⟨#[], #[.int .u16 0, .int .u16 0, .int .i32 0], []⟩).memory Try.f8.params.toList Rows.bucketBurstSpec.vars false (#[Value.int .u16 0, Value.int .u16 0, Value.int .i32 0]).toList 8 = some ([.lit (.int .u16 0), .lit (.int .u16 0), .lit (.int .i32 0)], [], places) :=
  ⟨[], by kernel_rfl⟩
set_option maxRecDepth 100000 in
theorem lifted (os : Os) (started : os.Started) (H : Type) (enc : TypeId × Value → H) (F : Stop.Interp) :
    ReturnsInHanded {} Try.checked os 8 .any ((OpenSpec.ofChange Rows.bucketBurstSpec).preRow enc Try.prog Try.f8 Rows.bucketBurstRow.domain false Rows.bucketBurstRow.laid) (((OpenSpec.ofChange Rows.bucketBurstSpec).at F).post enc Try.prog Try.f8 false true false false) := by
  obtain ⟨places, hx⟩ := reads os enc
  refine returnsInHanded_of_row (C := Try.checked) (s := OpenSpec.ofChange Rows.bucketBurstSpec) own started (by kernel_rfl) Try.func8
    (witness_row_atRef (enc := enc) (C := Try.checked) false (World.holding Try.prog os ⟨#[], #[], []⟩) #[.int .u16 0, .int .u16 0, .int .i32 0] rfl (by kernel_rfl) (by kernel_rfl) (by kernel_rfl)
      (OpenSpec.preRow_of_cond 8 hx (by kernel_rfl) (fun k hk => by cases hk) (by kernel_rfl) (laid_met os _))) ?_
  intro W base args ds gs before hval hW _ _ _ hL _ _
  exact contract H enc W base args ds gs before hval hW
theorem said : Rows.BucketBurstSaid :=
  OpenClaim.holds_of_cond 8 Try.f8 rfl rfl rfl rfl rfl rfl rfl ⟨rfl, rfl, rfl, rfl, rfl⟩ rfl rfl rfl rfl rfl (by kernel_rfl) Try.func8 (by kernel_rfl)
    (of_decide_eq_true (by kernel_rfl)) (by unfold Func.isWrapper; first | (rw [if_pos (by decide +kernel)]; kernel_rfl) | (rw [if_neg (by decide +kernel)]; exact ⟨rfl, rfl⟩))
    (fun os started H enc _ F => by rw [OpenClaim.pre_eq_preRow]; exact lifted os started H enc F)
end Go.Proofs.Ytokddpialnkckaa.BucketW.BucketBurst
