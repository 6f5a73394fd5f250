/- The law BucketNexts: a frame passes at the time that is told for the next one, and at none ahead of it: for all gaps, jitters and times. No condition. -/
import Derived.Test.YtokddpialnkckaaBucketLay
import Derived.Test.YtokddpialnkckaaBucketB
namespace Go.Proofs.Ytokddpialnkckaa.BucketW.BucketNexts
open Go.ChangeShapes Go.WideShapes Go.ChangeAt Go.RowKit BucketW Shell
/-- What the next one's time is. -/
theorem ask {g j t : Int} {s : Bk} (F : fit g j s) (hr : rgt g j = true) (ht : far t = false) :
    (t ≤ nxt j s t ∧ nxt j s t ≤ 1125902056325120) ∧ (far (nxt j s t) = false → pas j s (nxt j s t) = true ∧ pas j (tk g j s (nxt j s t - 1)) (nxt j s t) = true ∨ ¬ t < nxt j s t ∧ pas j s (nxt j s t) = true) ∧ (t < nxt j s t → pas j s (nxt j s t - 1) = false) := by
  obtain ⟨⟨g0, g1⟩, j0, j1⟩ := rgt_iff.1 hr
  have tb := far_iff.1 ht
  obtain ⟨h1, h2, h3⟩ := nx_ok F ht
  refine ⟨⟨h1, ?_⟩, fun hf => ?_, h3⟩
  · unfold nxt nx
    rw [ht, if_neg (by decide)]
    rcases F with f | f
    · rw [if_pos f]; omega
    · split
      · omega
      · omega
  · have hp : pas j s (nxt j s t) = true := h2 hf
    by_cases hlt : t < nxt j s t
    · left
      have hn : pas j s (nxt j s t - 1) = false := h3 hlt
      refine ⟨hp, ?_⟩
      rw [tk_no hn]
      exact hp
    · exact Or.inr ⟨hlt, hp⟩
theorem i64s_in {xs : List Int} {w : World} {A : Option Addr} (h : CL w .i64 A xs) {i : Nat} {x : Int} (hx : xs[i]? = some x) : ∃ a, A = some a ∧ w.cell? (a.add i) = some (.int .i64 x) := by
  obtain ⟨a, h1, h2, -⟩ := h i x hx
  exact ⟨a, h1, h2⟩
set_option maxHeartbeats 16000000 in
set_option maxRecDepth 100000 in
theorem walk (g j : Int) (A : Option Addr) (xs : List Int) (c : Nat) (w : World) (hA : CL w .i64 A xs) (hc : xs.length ≤ c) (_hn : A = none → c = 0) :
    Calls Try.prog 6 #[.int .i64 g, .int .i64 j, .slice A xs.length c] w fun e w' => e = .returned (.bool true) ∧ Below w.heap.size w w' := by
  obtain ⟨N, hN⟩ : ∃ N, min xs.length 60 = N := ⟨_, rfl⟩
  have e1 : min (xs.length : Int) 60 = (N : Int) := by omega
  have e2 : (if (60 : Int) < (xs.length : Int) then (60 : Int) else (xs.length : Int)) = (N : Int) := by split <;> omega
  have e3 : N ≤ c := by omega
  have e4 : (N : Int) ≤ (c : Int) := by omega
  have HA := Lib.hid hA
  obtain ⟨n, hn⟩ : ∃ n, xs.length = n := ⟨_, rfl⟩
  have HL := Lib.hid hn
  rw [hn] at e1 e2 hc hN ⊢
  have HN := Lib.hid (show N ≤ 60 ∧ N ≤ n ∧ n ≤ c by omega)
  clear hA hN hn hc
  go_enter Try.func6, Try.ntmps6
  go_wp2_with fail
  refine (fixed_any _).mono ?_
  rintro e w1 ⟨rfl, b1⟩
  have B1 := Lib.hid b1
  clear b1
  go_wp2_with (first
    | (go_at_call 15; refine (take_nil _ _).mono ?_; rintro e w' ⟨rfl, rfl⟩)
    | (go_at_call 12; refine (next_nil _ _).mono ?_; rintro e w' ⟨rfl, rfl⟩)
    | (go_at_call 16; refine (passed_nil _).mono ?_; rintro e w' ⟨rfl, rfl⟩)
    | (go_at_call 17; refine (refused_nil _).mono ?_; rintro e w' ⟨rfl, rfl⟩))
  clear e1 e2 e3 e4
  go_loopw [39] (fun iv wr => ∃ (k : Nat), iv = .int .i64 k ∧ k ≤ N ∧ Hid (Below w.heap.size w wr)) (fun iv _ => N - (intOf iv).toNat)
  case atStart => exact ⟨0, rfl, Nat.zero_le _, B1⟩
  case round =>
    clear B1
    obtain ⟨k, rfl, hk, HB⟩ := hrel
    obtain ⟨V, hV⟩ : ∃ V, V = wr := ⟨_, rfl⟩
    subst hV
    by_cases hkl : k < N
    · cases hr : rgt g j with
      | false =>
        go_wp2_with fail
        refine (new_bad g j hr _).mono ?_
        rintro e w' ⟨rfl, rfl⟩
        go_wp2
        go_ret
        exact ⟨rfl, HB.out⟩
      | true =>
        obtain ⟨t, hx⟩ : ∃ t, xs[k]? = some t := ⟨_, List.getElem?_eq_getElem (by have := HN.out; have := HL.out; omega)⟩
        obtain ⟨a, rfl, -⟩ := i64s_in HA.out hx
        have HX := Lib.hid hx
        have HK := Lib.hid hkl
        have HR := Lib.hid hr
        have k1 : k ≤ c := by have := HN.out; omega
        have k2 : (k : Int) ≤ (c : Int) := by omega
        have k3 : (k : Int) < (n : Int) := by have := HN.out; omega
        have k4 : k < n := by have := HN.out; omega
        have iw : IntKind.i64.wrap ((k : Int) + 1) = (k : Int) + 1 := by have := HN.out; rw [IntKind.wrap_i64]; omega
        have IW := Lib.hid iw
        clear hx iw
        go_wp2_with fail
        refine (pb_new (L := []) ⟨HB.out, fun x hx => by cases hx⟩ g j hr).mono ?_
        rintro e w2 ⟨rfl, p2, -⟩
        have P2 := Lib.hid p2
        generalize hkk : V.heap.size = q at *
        clear p2 hkk hr HB
        go_upto_region 13 with (fail)
        go_loopw [56] (fun iv wr => ∃ (i : Nat) (s : Bk), iv = .int .i64 i ∧ i ≤ k ∧ Hid (s.n + s.r = i) ∧ Hid (PB w [] q g j s wr)) (fun iv _ => k - (intOf iv).toNat)
        case atStart => exact ⟨0, b0, rfl, Nat.zero_le _, Lib.hid rfl, P2⟩
        case round =>
          clear P2
          obtain ⟨i, s, rfl, hi, HS, HP⟩ := hrel
          by_cases hil : i < k
          · obtain ⟨y, hy⟩ : ∃ y, xs[i]? = some y := ⟨_, List.getElem?_eq_getElem (by have := HL.out; omega)⟩
            obtain ⟨a', ha', hc⟩ := i64s_in (HA.out.below HP.out.st.b) hy
            cases ha'
            have HI := Lib.hid hil
            have HT := Lib.hid (HP.out.take y (by have := HS.out; have := HN.out; have := HK.out; omega))
            have HS1 := Lib.hid (show (tk g j s y).n + (tk g j s y).r = i + 1 by rw [tk_sum, HS.out])
            have iw : IntKind.i64.wrap ((i : Int) + 1) = (i : Int) + 1 := by have := HN.out; have := HK.out; rw [IntKind.wrap_i64]; omega
            generalize tk g j s y = s1 at *
            clear hy
            go_wp2_with fail
            refine HT.out.mono ?_
            rintro e w3 ⟨rfl, p3, -⟩
            have P3 := Lib.hid p3
            clear p3 HT HP hc
            go_wp2
            go_roundw
            case rel => exact ⟨i + 1, s1, by simp, by have := HI.out; omega, HS1, P3⟩
            case measure => have := HI.out; simp only [intOf]; clear iw; omega
          · obtain rfl : i = k := by omega
            obtain ⟨a', ha', hc⟩ := i64s_in (HA.out.below HP.out.st.b) HX.out
            cases ha'
            have SB := Lib.hid (show s.n + s.r < 1000 by have := HS.out; have := HN.out; have := HK.out; omega)
            have HNX := Lib.hid (HP.out.nextT t)
            have HQ := Lib.hid (fun h => ask (t := t) HP.out.ft HR.out h)
            have IW1 := IW
            obtain ⟨z, hz⟩ : ∃ z, nxt j s t = z := ⟨_, rfl⟩
            rw [hz] at HNX HQ
            cases ht : far t with
            | true =>
              have z0 : z = 0 := by rw [← hz]; unfold nxt nx; rw [ht, if_pos rfl]
              clear hz HQ
              subst z0
              go_wp2_with fail
              refine HNX.out.mono ?_
              rintro e w3 ⟨rfl, b3⟩
              have P3 := Lib.hid (HP.out.next b3)
              have hc3 := cell_keep hc b3
              clear b3 hc HP HNX
              go_wp2_with fail
              refine (refFar_any t _).mono ?_
              rintro e w' ⟨rfl, rfl⟩
              rw [ht]
              have iw := IW.out
              go_wp2
              go_roundw
              case rel => exact ⟨i + 1, by simp, by have := HK.out; omega, Lib.hid P3.out.st.b⟩
              case measure => have := HK.out; simp only [intOf]; clear iw; omega
            | false =>
              obtain ⟨⟨q1, q2⟩, q3, q4⟩ := HQ.out ht
              have tb := far_iff.1 ht
              have HT := Lib.hid ht
              clear hz HQ ht
              go_wp2_with fail
              refine HNX.out.mono ?_
              rintro e w3 ⟨rfl, b3⟩
              have P3 := Lib.hid (HP.out.next b3)
              have hc3 := cell_keep hc b3
              clear b3 hc HP HNX
              go_wp2_with fail
              refine (refFar_any t _).mono ?_
              rintro e w' ⟨rfl, rfl⟩
              rw [HT.out]
              by_cases hlt : t < z
              · have hp1 := q4 hlt
                have HT1 := Lib.hid (P3.out.take (z - 1) (by have := SB.out; omega))
                rw [hp1] at HT1
                have zw : IntKind.i64.wrap (z - 1) = z - 1 := by rw [IntKind.wrap_i64]; omega
                have n1 : ¬ z < t := by omega
                have hs1 : (tk g j s (z - 1)).n + (tk g j s (z - 1)).r < 2000 := by rw [tk_sum]; have := SB.out; omega
                have HS1 := Lib.hid hs1
                cases hf : far z with
                | true =>
                  clear q1 q2 q3 q4 tb hp1 hs1
                  go_wp2_with fail
                  refine HT1.out.mono ?_
                  rintro e w4 ⟨rfl, p4, -⟩
                  have P4 := Lib.hid p4
                  clear p4 HT1 P3 hc3
                  go_wp2_with fail
                  refine (refFar_any z _).mono ?_
                  rintro e w' ⟨rfl, rfl⟩
                  rw [hf]
                  have iw := IW.out
                  clear zw n1
                  go_wp2
                  go_roundw
                  case rel => exact ⟨i + 1, by simp, by have := HK.out; omega, Lib.hid P4.out.st.b⟩
                  case measure => have := HK.out; simp only [intOf]; clear iw; omega
                | false =>
                  have hp2 : pas j (tk g j s (z - 1)) z = true := by
                    rcases q3 hf with ⟨-, h⟩ | ⟨h, -⟩
                    · exact h
                    · omega
                  have HP2 := Lib.hid hp2
                  clear q1 q2 q3 q4 tb hp1 hs1 hp2
                  generalize tk g j s (z - 1) = s1 at *
                  go_wp2_with fail
                  refine HT1.out.mono ?_
                  rintro e w4 ⟨rfl, p4, -⟩
                  have P4 := Lib.hid p4
                  have HT2 := Lib.hid (p4.take z (by have := HS1.out; omega))
                  rw [HP2.out] at HT2
                  clear p4 HT1 P3 hc3
                  go_wp2_with fail
                  refine (refFar_any z _).mono ?_
                  rintro e w' ⟨rfl, rfl⟩
                  rw [hf]
                  go_wp2_with fail
                  refine HT2.out.mono ?_
                  rintro e w5 ⟨rfl, p5, -⟩
                  have P5 := Lib.hid p5
                  have iw := IW.out
                  clear p5 HT2 P4 zw n1
                  go_wp2
                  go_roundw
                  case rel => exact ⟨i + 1, by simp, by have := HK.out; omega, Lib.hid P5.out.st.b⟩
                  case measure => have := HK.out; simp only [intOf]; clear iw; omega
              · obtain rfl : z = t := by omega
                have hp2 : pas j s z = true := by
                  rcases q3 HT.out with ⟨h, -⟩ | ⟨-, h⟩
                  · exact h
                  · exact h
                have HT2 := Lib.hid (P3.out.take z (by have := SB.out; omega))
                rw [hp2] at HT2
                clear q1 q2 q3 q4 tb hp2
                go_wp2_with fail
                refine (refFar_any z _).mono ?_
                rintro e w' ⟨rfl, rfl⟩
                rw [HT.out]
                go_wp2_with fail
                refine HT2.out.mono ?_
                rintro e w5 ⟨rfl, p5, -⟩
                have P5 := Lib.hid p5
                have iw := IW.out
                clear p5 HT2 P3
                go_wp2
                go_roundw
                case rel => exact ⟨i + 1, by simp, by have := HK.out; omega, Lib.hid P5.out.st.b⟩
                case measure => have := HK.out; simp only [intOf]; clear iw; omega
    · go_wp2
      go_ret
      exact ⟨rfl, HB.out⟩
set_option maxRecDepth 100000 in
/-- What the walk gives, for every argument and every world. -/
theorem contract (H : Type) (enc : TypeId × Value → H) (W : World) (base : Nat) (args : Array Value) (ds gs : List (DataW H)) (before : List MemPlace)
    (hval : ∀ (j : Nat) t v, Try.f6.params[j]? = some t → args[j]? = some v → Value.okWide Try.prog W .any base t v)
    (hW : DataW.Whole enc Try.prog Try.f6.params.toList Rows.bucketNextsSpec.vars false W args.toList ds gs before) : 
    Calls Try.prog 6 args W fun e W' => ∃ v, e = .returned v ∧ Rows.bucketNextsSpec.post enc Try.prog Try.f6 false true false false W args v W' := by
  have hW' := hW
  obtain ⟨p, q, hA0, hV, rfl, hfz, hnd⟩ := hW
  have hA : DataW.TrodAll enc Try.prog W 0 (fun _ => true) true Try.f6.params.toList args.toList ds p := hA0
  rw [Try.params6] at hA hval
  obtain ⟨v0, vs0, d0, ds0, p0, q0, hargs, rfl, rfl, h0, r0⟩ := trodAll_cons hA
  obtain ⟨v1, vs1, d1, ds1, p1, q1, rfl, rfl, rfl, h1, r1⟩ := trodAll_cons r0
  obtain ⟨v2, vs2, d2, ds2, p2, q2, rfl, rfl, rfl, h2, r2⟩ := trodAll_cons r1
  obtain ⟨rfl, rfl, rfl⟩ := trodAll_nil r2
  obtain rfl : args = #[v0, v1, v2] := by cases args; simp_all
  obtain ⟨rfl, rfl⟩ := trodVars_none hV
  obtain ⟨g, rfl, rfl, rfl, w0⟩ := open_int Try.underlying2 (hval 0 2 v0 rfl rfl) h0
  obtain ⟨j, rfl, rfl, rfl, w1⟩ := open_int Try.underlying2 (hval 1 2 v1 rfl rfl) h1
  obtain ⟨A2, xs, c2, rfl, f2, l2, lc2, sz2, nl2⟩ := open_nums Try.underlying22 Try.underlying2 (by kernel_rfl) (hval 2 22 v2 rfl rfl) h2
  refine (walk g j A2 xs c2 W f2 lc2 nl2).mono fun e W' ⟨he, hb⟩ => ?_
  exact ⟨_, he, Shell.post_law laidOut (by kernel_rfl) rfl Try.underlying4 rfl hW' rfl hb⟩
theorem reads (os : Os) {H : Type} (enc : TypeId × Value → H) : ∃ places, DataW.whole enc Try.prog ((World.holding Try.prog os ⟨#[], #[], []⟩).forCall (fun _ _ => 0) ⟨#[], #[.int .i64 0, .int .i64 0, .slice none 0 0], []⟩).memory Try.f6.params.toList Rows.bucketNextsSpec.vars false (#[Value.int .i64 0, Value.int .i64 0, Value.slice none 0 0]).toList 8 = some ([.lit (.int .i64 0), .lit (.int .i64 0), .nil], [], places) :=
  ⟨[], by kernel_rfl⟩
set_option maxRecDepth 100000 in
theorem lifted (os : Os) (started : os.Started) (H : Type) (enc : TypeId × Value → H) (F : Stop.Interp) :
    ReturnsInHanded {} Try.checked os 6 .any ((OpenSpec.ofChange Rows.bucketNextsSpec).preRow enc Try.prog Try.f6 Rows.bucketNextsRow.domain false Rows.bucketNextsRow.laid) (((OpenSpec.ofChange Rows.bucketNextsSpec).at F).post enc Try.prog Try.f6 false true false false) := by
  obtain ⟨places, hx⟩ := reads os enc
  refine returnsInHanded_of_row (C := Try.checked) (s := OpenSpec.ofChange Rows.bucketNextsSpec) own started (by kernel_rfl) Try.func6
    (witness_row_atRef (enc := enc) (C := Try.checked) false (World.holding Try.prog os ⟨#[], #[], []⟩) #[.int .i64 0, .int .i64 0, .slice none 0 0] rfl (by kernel_rfl) (by kernel_rfl) (by kernel_rfl)
      (OpenSpec.preRow_of_cond 8 hx (by kernel_rfl) (fun k hk => by cases hk) (by kernel_rfl) (laid_met os _))) ?_
  intro W base args ds gs before hval hW _ _ _ hL _ _
  exact contract H enc W base args ds gs before hval hW
theorem said : Rows.BucketNextsSaid :=
  OpenClaim.holds_of_cond 6 Try.f6 rfl rfl rfl rfl rfl rfl rfl ⟨rfl, rfl, rfl, rfl, rfl⟩ rfl rfl rfl rfl rfl (by kernel_rfl) Try.func6 (by kernel_rfl)
    (of_decide_eq_true (by kernel_rfl)) (by unfold Func.isWrapper; first | (rw [if_pos (by decide +kernel)]; kernel_rfl) | (rw [if_neg (by decide +kernel)]; exact ⟨rfl, rfl⟩))
    (fun os started H enc _ F => by rw [OpenClaim.pre_eq_preRow]; exact lifted os started H enc F)
end Go.Proofs.Ytokddpialnkckaa.BucketW.BucketNexts
