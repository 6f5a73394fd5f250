/- The law ClockAlike: two clocks that are made alike, or where one is made of what the other shows, show the same; a drift is a whole rate, or refused; a nil clock: for all starts, times and floats. No condition. -/
import Derived.Test.YtmpceabhnhipcaaClockLay
namespace Go.Proofs.Ytmpceabhnhipcaa.ClockW.ClockAlike
open Go.ChangeShapes Go.WideShapes Go.ChangeAt Go.RowKit TickW ClockW Shell
theorem cells2 {w : World} {j : Nat} {x y : Value} {t : TypeId} (h : w.heap[j]? = some (.cells #[x, y] t (0, 0))) : w.cell? ⟨j, 0, none⟩ = some x ∧ w.cell? ⟨j, 1, none⟩ = some y :=
  ⟨cell_of_row w j 0 _ _ _ h, cell_of_row w j 1 _ _ _ h⟩
/-- A clock made of another's mark shows the same. -/
theorem again_any (t b r a : Int) (ho : okN t b r = true) (ha : tell t a = true) (w : World) :
    Calls Try.prog 25 #[.int .i64 t, .int .i64 b, .int .i64 r, .int .i64 a, .int .i64 (sh t b r a)] w fun e w' => e = .returned (.bool true) ∧ Below w.heap.size w w' := by
  have hci := Lib.hid (okN_iff.1 ho).1
  have N := fun k W h => now_ok k t b r a W h hci.out ha
  generalize sh t b r a = z at *
  have HN := Lib.hid N
  clear N
  go_enter Try.func25, Try.ntmps25
  go_wp2_with fail
  refine (new_ok t b r ho _).mono ?_
  rintro e w1 ⟨rfl, c1, b1⟩
  go_wp2_with fail
  refine (HN.out w.heap.size w1 c1).mono ?_
  rintro e w2 ⟨rfl, b2⟩
  go_wp2
  go_ret
  exact ⟨rfl, b1.trans (b2.mono b1.size)⟩
/-- What two steps show beside one. -/
theorem sh_two {m b r t u : Int} : sh t (sh m b r t) r u - sh m b r u ≥ -1 ∧ sh t (sh m b r t) r u - sh m b r u ≤ 0 := by
  unfold sh
  have e : (u - m) * (1000000000 + r) = (t - m) * (1000000000 + r) + (u - t) * (1000000000 + r) := by
    rw [← Int.add_mul]; congr 1; omega
  rw [e]
  generalize (t - m) * (1000000000 + r) = x
  generalize (u - t) * (1000000000 + r) = y
  omega
set_option maxHeartbeats 2000000 in
set_option maxRecDepth 100000 in
theorem walk (m b r t u : Int) (x : Nat) (w : World) :
    Calls Try.prog 7 #[.agg #[.int .i64 m, .int .i64 b, .int .i64 r], .agg #[.int .i64 t, .int .i64 u], .float .f64 x] w fun e w' => e = .returned (.bool true) ∧ Below w.heap.size w w' := by
  obtain ⟨p, q, hpq⟩ := driftV_tuple x
  have D1 := fun W => drift_any x W
  have D2 := fun W => refDrift_any x W
  rw [hpq] at D1 D2
  have HD1 := Lib.hid D1
  have HD2 := Lib.hid D2
  clear D1 D2 hpq
  have S0 := ((Stay.start w).alloc (arr3 m b r)).alloc (.cells #[.int .i64 t, .int .i64 u] 45)
  rw [show (w.alloc (arr3 m b r)).heap.size = w.heap.size + 1 by simp] at S0
  go_enter Try.func7, Try.ntmps7
  go_wp2_with fail
  generalize (w.alloc (Obj.cells #[.int .i64 m, .int .i64 b, .int .i64 r] 22)).alloc (Obj.cells #[.int .i64 t, .int .i64 u] 45) = W0 at *
  refine (fixed_any _).mono ?_
  rintro e w1 ⟨rfl, b1⟩
  have S1 := Lib.hid (S0.next b1)
  clear S0 b1
  go_wp2_with fail
  refine (HD1.out _).mono ?_
  rintro e w2 ⟨rfl, b2⟩
  have S2 := Lib.hid (S1.out.next b2)
  clear S1 b2
  go_wp2_with fail
  refine (HD2.out _).mono ?_
  rintro e w3 ⟨rfl, b3⟩
  have S3 := Lib.hid (S2.out.next b3)
  clear S2 b3 HD1 HD2
  go_wp2_with fail
  refine (now_nil 0 _).mono ?_
  rintro e w' ⟨rfl, rfl⟩
  go_wp2_with fail
  refine (when_nil 0 _).mono ?_
  rintro e w' ⟨rfl, rfl⟩
  go_wp2_with fail
  refine (mark_nil _).mono ?_
  rintro e w4 ⟨rfl, b4⟩
  have S4 := Lib.hid (S3.out.next b4)
  clear S3 b4
  obtain ⟨a0, a1, a2⟩ := cells3 (S4.out.at 1 rfl)
  obtain ⟨d0, d1⟩ := cells2 (S4.out.at 0 rfl)
  go_wp2_with (first
    | (go_at_call 18; refine (set_nil _ _ _).mono ?_; rintro e w' ⟨rfl, rfl⟩)
    | (go_at_call 16; refine (rate_nil _ _ _).mono ?_; rintro e w' ⟨rfl, rfl⟩))
  cases ho : okN m b r with
  | false =>
    refine (new_bad m b r ho _).mono ?_
    rintro e w' ⟨rfl, rfl⟩
    go_wp2
    go_ret
    exact ⟨rfl, S4.out.b⟩
  | true =>
    have hci := Lib.hid (okN_iff.1 ho).1
    refine (new_ok m b r ho _).mono ?_
    rintro e w5 ⟨rfl, c5, b5⟩
    have S5 := Lib.hid ((S4.out.next b5).add (o := ck m b r) c5)
    have NK := Lib.hid (show w.heap.size + 1 < w4.heap.size from lt_of_heap (S4.out.at 0 rfl))
    generalize hk : w4.heap.size = k at *
    clear S4 a0 a1 a2 d0 d1 b5 c5 hk
    obtain ⟨a0, a1, a2⟩ := cells3 (S5.out.at 2 rfl)
    obtain ⟨d0, d1⟩ := cells2 (S5.out.at 1 rfl)
    go_wp2_with fail
    refine (new_ok m b r ho _).mono ?_
    rintro e w6 ⟨rfl, c6, b6⟩
    have S6 := Lib.hid ((S5.out.next b6).add (o := ck m b r) c6)
    have NJ := Lib.hid (show k < w5.heap.size from lt_of_heap (S5.out.at 0 rfl))
    generalize hj : w5.heap.size = j at *
    clear S5 a0 a1 a2 d0 d1 b6 c6 hj
    obtain ⟨a0, a1, a2⟩ := cells3 (S6.out.at 3 rfl)
    obtain ⟨d0, d1⟩ := cells2 (S6.out.at 2 rfl)
    have C6 := Lib.hid (show CK w6 k m b r from S6.out.at 1 rfl)
    cases ht : tell m t with
    | false =>
      go_wp2_with fail
      refine (rate_bad k m b r t r _ C6.out (by rw [ht]; rfl)).mono ?_
      rintro e w' ⟨rfl, rfl⟩
      go_wp2
      go_ret
      exact ⟨rfl, S6.out.b⟩
    | true =>
      have HT := tell_iff.1 ht
      have hr := okR_iff.2 ⟨hci.out.r0, hci.out.r1⟩
      have hcj := Lib.hid (hci.out.next HT.2 HT.1.2 hci.out.r0 hci.out.r1)
      have S6' := Lib.hid (S6.out.sub (M := [(k, ck m b r), (j, ck m b r), (w.heap.size + 1, .cells #[.int .i64 t, .int .i64 u] 45 (0, 0)), (w.heap.size, arr3 m b r)]) (by simp))
      go_wp2_with fail
      refine (rate_ok k m b r t r _ C6.out hci.out ht hr).mono ?_
      obtain ⟨b', hb'⟩ : ∃ b', sh m b r t = b' := ⟨_, rfl⟩
      rw [hb'] at hcj ⊢
      rintro e w7 ⟨rfl, c7, b7⟩
      have S7 := Lib.hid (S6'.out.turn b7 (o' := ck t b' r) c7 (by have := NK.out; omega) (by have := NK.out; have := NJ.out; simp; omega))
      have HB := Lib.hid hb'
      clear a0 a1 a2 d0 d1 b7 c7 S6 S6' C6 hb' HT
      obtain ⟨a0, a1, a2⟩ := cells3 (S7.out.at 3 rfl)
      obtain ⟨d0, d1⟩ := cells2 (S7.out.at 2 rfl)
      go_wp2_with fail
      refine (mark_any k t b' r _ (S7.out.at 0 rfl)).mono ?_
      rintro e w8 ⟨rfl, b8⟩
      have S8 := Lib.hid (S7.out.next b8)
      clear a0 a1 a2 d0 d1 b8 S7
      obtain ⟨a0, a1, a2⟩ := cells3 (S8.out.at 3 rfl)
      obtain ⟨d0, d1⟩ := cells2 (S8.out.at 2 rfl)
      cases hu : tell t u with
      | false =>
        go_wp2_with fail
        refine (now_bad k t b' r u _ (S8.out.at 0 rfl) hu).mono ?_
        rintro e w' ⟨rfl, rfl⟩
        cases hv : tell m u with
        | false =>
          go_wp2_with fail
          refine (now_bad j m b r u _ (S8.out.at 1 rfl) hv).mono ?_
          rintro e w' ⟨rfl, rfl⟩
          go_wp2
          go_ret
          exact ⟨rfl, S8.out.b⟩
        | true =>
          go_wp2_with fail
          refine (now_ok j m b r u _ (S8.out.at 1 rfl) hci.out hv).mono ?_
          rintro e w9 ⟨rfl, b9⟩
          go_wp2
          go_ret
          exact ⟨rfl, (S8.out.next b9).b⟩
      | true =>
        have hv : tell m u = true := by
          have h1 := tell_iff.1 ht
          have h2 := tell_iff.1 hu
          exact tell_iff.2 ⟨h2.1, by omega⟩
        have h2 := tell_iff.1 hu
        have q := sh_two (m := m) (b := b) (r := r) (t := t) (u := u)
        rw [HB.out] at q
        have q1 := sh_range hci.out (t := u) (tell_iff.1 hv).2 h2.1.2
        have q2 := sh_range hcj.out (t := u) h2.2 h2.1.2
        have A := fun (h : okB b' = true) W => again_any t b' r u (okN_iff.2 ⟨hcj.out, h⟩) hu W
        have N1 := now_ok k t b' r u _ (S8.out.at 0 rfl) hcj.out hu
        have N2 := fun W h => now_ok j m b r u W h hci.out hv
        clear ht h2
        generalize sh t b' r u = z at *
        generalize sh m b r u = y at *
        have q3 := q.1
        have q4 := q.2
        have HN2 := Lib.hid N2
        have HA := Lib.hid A
        clear q N2 A
        go_wp2_with fail
        refine N1.mono ?_
        rintro e w9 ⟨rfl, b9⟩
        have S9 := Lib.hid (S8.out.next b9)
        clear a0 a1 a2 d0 d1 b9 S8 N1
        obtain ⟨a0, a1, a2⟩ := cells3 (S9.out.at 3 rfl)
        obtain ⟨d0, d1⟩ := cells2 (S9.out.at 2 rfl)
        go_wp2_with fail
        refine (HN2.out _ (S9.out.at 1 rfl)).mono ?_
        rintro e w10 ⟨rfl, b10⟩
        have S10 := Lib.hid (S9.out.next b10)
        clear a0 a1 a2 d0 d1 b10 S9 HN2
        obtain ⟨a0, a1, a2⟩ := cells3 (S10.out.at 3 rfl)
        obtain ⟨d0, d1⟩ := cells2 (S10.out.at 2 rfl)
        by_cases k1 : b' < -1125899906842624
        · go_wp2
          go_ret
          exact ⟨rfl, S10.out.b⟩
        · by_cases k2 : 1125899906842624 < b'
          · go_wp2
            go_ret
            exact ⟨rfl, S10.out.b⟩
          · have kb := okB_iff.2 ⟨Int.not_lt.1 k1, Int.not_lt.1 k2⟩
            go_wp2_with fail
            refine (HA.out kb _).mono ?_
            rintro e w11 ⟨rfl, b11⟩
            go_wp2
            go_ret
            exact ⟨rfl, (S10.out.next b11).b⟩
set_option maxRecDepth 100000 in
/-- What the walk gives, for every argument and every world. -/
theorem contract (H : Type) (enc : TypeId × Value → H) (W : World) (base : Nat) (args : Array Value) (ds gs : List (DataW H)) (before : List MemPlace)
    (hval : ∀ (j : Nat) t v, Try.f7.params[j]? = some t → args[j]? = some v → Value.okWide Try.prog W .any base t v)
    (hW : DataW.Whole enc Try.prog Try.f7.params.toList Rows.clockAlikeSpec.vars false W args.toList ds gs before) : 
    Calls Try.prog 7 args W fun e W' => ∃ v, e = .returned v ∧ Rows.clockAlikeSpec.post enc Try.prog Try.f7 false true false false W args v W' := by
  have hW' := hW
  obtain ⟨p, q, hA0, hV, rfl, hfz, hnd⟩ := hW
  have hA : DataW.TrodAll enc Try.prog W 0 (fun _ => true) true Try.f7.params.toList args.toList ds p := hA0
  rw [Try.params7] at hA hval
  obtain ⟨v0, vs0, d0, ds0, p0, q0, hargs, rfl, rfl, h0, r0⟩ := trodAll_cons hA
  obtain ⟨v1, vs1, d1, ds1, p1, q1, rfl, rfl, rfl, h1, r1⟩ := trodAll_cons r0
  obtain ⟨v2, vs2, d2, ds2, p2, q2, rfl, rfl, rfl, h2, r2⟩ := trodAll_cons r1
  obtain ⟨rfl, rfl, rfl⟩ := trodAll_nil r2
  obtain rfl : args = #[v0, v1, v2] := by cases args; simp_all
  obtain ⟨rfl, rfl⟩ := trodVars_none hV
  obtain ⟨l0, rfl, hl0, w0⟩ := open_array Try.underlying22 Try.underlying2 (by kernel_rfl) (by kernel_rfl) (hval 0 22 v0 rfl rfl) h0
  obtain ⟨s0, s1, s2, rfl⟩ := len3 hl0
  have s0w := i64_wf (w0 s0 (by simp))
  have s1w := i64_wf (w0 s1 (by simp))
  have s2w := i64_wf (w0 s2 (by simp))
  obtain ⟨l1, rfl, hl1, w1⟩ := open_array Try.underlying45 Try.underlying2 (by kernel_rfl) (by kernel_rfl) (hval 1 45 v1 rfl rfl) h1
  obtain ⟨a0, a1, rfl⟩ := len2 hl1
  have a0w := i64_wf (w1 a0 (by simp))
  have a1w := i64_wf (w1 a1 (by simp))
  obtain ⟨x, rfl, rfl, rfl, w2⟩ := open_float Try.underlying46 (hval 2 46 v2 rfl rfl) h2
  have b2 : x < 18446744073709551616 := Shell.f64_lt w2
  refine (walk s0 s1 s2 a0 a1 x W).mono fun e W' ⟨he, hb⟩ => ?_
  exact ⟨_, he, Shell.post_law laidOut (by kernel_rfl) rfl Try.underlying4 rfl hW' rfl hb⟩
theorem reads (os : Os) {H : Type} (enc : TypeId × Value → H) : ∃ places, DataW.whole enc Try.prog ((World.holding Try.prog os ⟨#[], #[], []⟩).forCall (fun _ _ => 0) ⟨#[], #[.agg #[.int .i64 0, .int .i64 0, .int .i64 0], .agg #[.int .i64 0, .int .i64 0], .float .f64 0], []⟩).memory Try.f7.params.toList Rows.clockAlikeSpec.vars false (#[Value.agg #[.int .i64 0, .int .i64 0, .int .i64 0], Value.agg #[.int .i64 0, .int .i64 0], Value.float .f64 0]).toList 8 = some ([.agg [.lit (.int .i64 0), .lit (.int .i64 0), .lit (.int .i64 0)], .agg [.lit (.int .i64 0), .lit (.int .i64 0)], .lit (.float .f64 0)], [], places) :=
  ⟨[], by kernel_rfl⟩
set_option maxRecDepth 100000 in
theorem lifted (os : Os) (started : os.Started) (H : Type) (enc : TypeId × Value → H) (F : Stop.Interp) :
    ReturnsInHanded {} Try.checked os 7 .any ((OpenSpec.ofChange Rows.clockAlikeSpec).preRow enc Try.prog Try.f7 Rows.clockAlikeRow.domain false Rows.clockAlikeRow.laid) (((OpenSpec.ofChange Rows.clockAlikeSpec).at F).post enc Try.prog Try.f7 false true false false) := by
  obtain ⟨places, hx⟩ := reads os enc
  refine returnsInHanded_of_row (C := Try.checked) (s := OpenSpec.ofChange Rows.clockAlikeSpec) own started (by kernel_rfl) Try.func7
    (witness_row_atRef (enc := enc) (C := Try.checked) false (World.holding Try.prog os ⟨#[], #[], []⟩) #[.agg #[.int .i64 0, .int .i64 0, .int .i64 0], .agg #[.int .i64 0, .int .i64 0], .float .f64 0] rfl (by kernel_rfl) (by kernel_rfl) (by kernel_rfl)
      (OpenSpec.preRow_of_cond 8 hx (by kernel_rfl) (fun k hk => by cases hk) (by kernel_rfl) (laid_met os _))) ?_
  intro W base args ds gs before hval hW _ _ _ hL _ _
  exact contract H enc W base args ds gs before hval hW
theorem said : Rows.ClockAlikeSaid :=
  OpenClaim.holds_of_cond 7 Try.f7 rfl rfl rfl rfl rfl rfl rfl ⟨rfl, rfl, rfl, rfl, rfl⟩ rfl rfl rfl rfl rfl (by kernel_rfl) Try.func7 (by kernel_rfl)
    (of_decide_eq_true (by kernel_rfl)) (by unfold Func.isWrapper; first | (rw [if_pos (by decide +kernel)]; kernel_rfl) | (rw [if_neg (by decide +kernel)]; exact ⟨rfl, rfl⟩))
    (fun os started H enc _ F => by rw [OpenClaim.pre_eq_preRow]; exact lifted os started H enc F)
end Go.Proofs.Ytmpceabhnhipcaa.ClockW.ClockAlike
