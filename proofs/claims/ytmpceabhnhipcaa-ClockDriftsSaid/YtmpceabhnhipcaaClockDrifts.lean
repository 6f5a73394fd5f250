/- The law ClockDrifts: whatever rates a clock had, it went on beside real time within the greatest rate, and one more for each change: for all starts, changes and ends. No condition. -/
import Derived.Test.YtmpceabhnhipcaaClockLay
import Derived.Test.YtmpceabhnhipcaaRow3
namespace Go.Proofs.Ytmpceabhnhipcaa.ClockW.ClockDrifts
open Go.ChangeShapes Go.WideShapes Go.ChangeAt Go.RowKit TickW ClockW Shell
/-- How far a clock went in the rounds so far: since it began at (m0, b0), through n rates. -/
def Went (m0 b0 m b n : Int) : Prop := 999 * (m - m0) ≤ 1000 * (b - b0) + 999 * (n - 1) ∧ 1000 * (b - b0) ≤ 1001 * (m - m0)
theorem Went.next {m0 b0 m b r n t : Int} (h : Went m0 b0 m b n) (h0 : m ≤ t) (r0 : -1000000 ≤ r) (r1 : r ≤ 1000000) : Went m0 b0 t (sh m b r t) (n + 1) := by
  have g := gone_bounds (t - m) r (by omega) r0 r1
  obtain ⟨h1, h2⟩ := h
  unfold Went sh
  omega
theorem Went.far {m0 b0 m b n : Int} (h : Went m0 b0 m b n) (hn : 1 ≤ n) : (m - m0) - ((m - m0) / 1000 + 1 + (n - 1)) ≤ b - b0 ∧ b - b0 ≤ (m - m0) + ((m - m0) / 1000 + 1 + (n - 1)) := by
  obtain ⟨h1, h2⟩ := h
  omega
set_option maxHeartbeats 2000000 in
set_option maxRecDepth 100000 in
theorem walk (m b r : Int) (A : Option Addr) (ops : List (List Int)) (c : Nat) (u : Int) (w : World) (hA : RL w [.i64, .i64, .i64] A ops) (hl : ops.length ≤ 5864062014806) :
    Calls Try.prog 6 #[.agg #[.int .i64 m, .int .i64 b, .int .i64 r], .slice A ops.length c, .int .i64 u] w fun e w' => e = .returned (.bool true) ∧ Below w.heap.size w w' := by
  have S0 := (Stay.start w).alloc (arr3 m b r)
  have HA := Lib.hid hA
  go_enter Try.func6, Try.ntmps6
  go_wp2_with fail
  generalize w.alloc (Obj.cells #[.int .i64 m, .int .i64 b, .int .i64 r] 22) = W0 at *
  refine (fixed_any _).mono ?_
  rintro e w1 ⟨rfl, b1⟩
  have S1 := Lib.hid (S0.next b1)
  obtain ⟨a0, a1, a2⟩ := cells3 (S1.out.at 0 rfl)
  clear S0 b1 hA
  cases ho : okN m b r with
  | false =>
    go_wp2_with fail
    refine (new_bad m b r ho _).mono ?_
    rintro e w' ⟨rfl, rfl⟩
    go_wp2
    go_ret
    exact ⟨rfl, S1.out.b⟩
  | true =>
    have hci := Lib.hid (okN_iff.1 ho).1
    go_wp2_with fail
    refine (new_ok m b r ho _).mono ?_
    rintro e w2 ⟨rfl, c2, b2⟩
    have S2 := Lib.hid ((S1.out.next b2).add (o := ck m b r) c2)
    have NK := Lib.hid (show w.heap.size < w1.heap.size from lt_of_heap (S1.out.at 0 rfl))
    generalize hk : w1.heap.size = k at *
    clear S1 a0 a1 a2 b2 c2 hk
    go_wp2_with fail
    go_loopw [9, 35] (fun nv iv wr => ∃ (j : Nat) (n m' b' r' : Int), nv = .int .i64 n ∧ iv = .int .i64 j ∧ j ≤ ops.length ∧ Hid (1 ≤ n ∧ n ≤ (j : Int) + 1) ∧ Hid (CI m' b' r' ∧ m ≤ m' ∧ Went m b m' b' n) ∧ Hid (Stay w [(k, ck m' b' r'), (w.heap.size, arr3 m b r)] wr)) (fun _ iv _ => ops.length - (intOf iv).toNat)
    case atStart => exact ⟨0, 1, m, b, r, rfl, rfl, Nat.zero_le _, Lib.hid ⟨by decide, by decide⟩, Lib.hid ⟨hci.out, Int.le_refl _, by unfold Went; omega⟩, S2⟩
    case round =>
      obtain ⟨j, n, m', b', r', rfl, rfl, hj, HN, HC, HS⟩ := hrel
      by_cases hjl : j < ops.length
      · obtain ⟨xs, hx⟩ : ∃ xs, ops[j]? = some xs := ⟨_, List.getElem?_eq_getElem hjl⟩
        obtain ⟨blk, off, x, t, q, rfl, rfl, e0, e1, e2, -, -, -⟩ := (HA.out.below HS.out.b).row3 hx
        have C := Lib.hid (show CK wr k m' b' r' from HS.out.at 0 rfl)
        clear hx
        have h0 := lt_of_heap (HS.out.at 0 rfl)
        have C1 := Lib.hid (C.out.below (al (Below.refl _ _) (Obj.cells #[.int .i64 x, .int .i64 t, .int .i64 q] 33)))
        have S1 := Lib.hid (HS.out.next (al (Below.refl _ _) (Obj.cells #[.int .i64 x, .int .i64 t, .int .i64 q] 33)))
        have nb : n ≤ 4611686018427387904 := by have := HN.out.2; omega
        have n1 := HN.out.1
        cases hk : (tell m' t && okR q) with
        | false =>
          go_wp2_with fail
          refine (rate_bad k m' b' r' t q _ C1.out hk).mono ?_
          rintro e w' ⟨rfl, rfl⟩
          go_wp2
          go_roundw
          case rel => exact ⟨j + 1, n, m', b', r', rfl, by simp, by omega, Lib.hid ⟨HN.out.1, by have := HN.out.2; omega⟩, HC, S1⟩
          case measure => simp only [intOf]; omega
        | true =>
          obtain ⟨k1, k2⟩ := Bool.and_eq_true_iff.1 hk
          have HT := tell_iff.1 k1
          have HC' := Lib.hid (show CI t (sh m' b' r' t) q ∧ m ≤ t ∧ Went m b t (sh m' b' r' t) (n + 1) from ⟨HC.out.1.next HT.2 HT.1.2 (okR_iff.1 k2).1 (okR_iff.1 k2).2, by have := HC.out.2.1; omega, HC.out.2.2.next HT.2 HC.out.1.r0 HC.out.1.r1⟩)
          clear HT
          go_wp2_with fail
          refine (rate_ok k m' b' r' t q _ C1.out HC.out.1 k1 k2).mono ?_
          generalize sh m' b' r' t = z at *
          rintro e w5 ⟨rfl, c5, b5⟩
          have S5 := Lib.hid (S1.out.turn b5 (o' := ck t z q) c5 (by have := NK.out; omega) (by have := NK.out; simp; omega))
          clear b5 c5
          go_wp2
          go_roundw
          case rel => exact ⟨j + 1, n + 1, t, z, q, rfl, by simp, by omega, Lib.hid ⟨by omega, by have := HN.out.2; omega⟩, HC', S5⟩
          case measure => simp only [intOf]; omega
      · have C := Lib.hid (show CK wr k m' b' r' from HS.out.at 0 rfl)
        have ej : j = ops.length := by omega
        have nb : n ≤ 4611686018427387904 := by have := HN.out.2; omega
        have n1 := HN.out.1
        cases hu : tell m' u with
        | false =>
          go_wp2_with fail
          refine (now_bad k m' b' r' u _ C.out hu).mono ?_
          rintro e w' ⟨rfl, rfl⟩
          go_wp2
          go_ret
          exact ⟨rfl, HS.out.b⟩
        | true =>
          have HU := tell_iff.1 hu
          have W1 := (HC.out.2.2.next HU.2 HC.out.1.r0 HC.out.1.r1).far (by omega)
          have N := now_ok k m' b' r' u _ C.out HC.out.1 hu
          have q1 := sh_range HC.out.1 HU.2 HU.1.2
          have q2 := hci.out.b0
          have q3 := hci.out.base
          have q4 := hci.out.m0
          have q5 := HC.out.2.1
          have q6 := HU.1
          have q7 := HU.2
          generalize sh m' b' r' u = z at *
          have d0 : 0 ≤ u - m := by omega
          rw [show n + 1 - 1 = n by omega] at W1
          have w1' := W1.1
          have w2' := W1.2
          generalize hd : (u - m) / 1000 = dd at *
          have hd0 : 0 ≤ dd := by omega
          have hd1 : dd ≤ 1125899906843 := by omega
          have td : (u - m).tdiv 1000 = dd := by rw [Int.tdiv_eq_ediv_of_nonneg d0]; exact hd
          clear W1 HU hd
          go_wp2_with fail
          refine N.mono ?_
          rintro e w5 ⟨rfl, b5⟩
          have S5 := Lib.hid (HS.out.next b5)
          clear b5
          obtain ⟨a0, a1, a2⟩ := cells3 (S5.out.at 1 rfl)
          go_wp2
          go_ret
          exact ⟨rfl, S5.out.b⟩
set_option maxRecDepth 100000 in
/-- What the walk gives, for every argument and every world. -/
theorem contract (H : Type) (enc : TypeId × Value → H) (W : World) (base : Nat) (args : Array Value) (ds gs : List (DataW H)) (before : List MemPlace)
    (hval : ∀ (j : Nat) t v, Try.f6.params[j]? = some t → args[j]? = some v → Value.okWide Try.prog W .any base t v)
    (hW : DataW.Whole enc Try.prog Try.f6.params.toList Rows.clockDriftsSpec.vars false W args.toList ds gs before) (hz : (DataW.weightsEach Try.prog (Try.f6.params.toList ++ (OpenSpec.ofChange Rows.clockDriftsSpec).bare.plain.varTypes Try.prog) (ds ++ gs)).all (· ≤ reachBytes) = true) : 
    Calls Try.prog 6 args W fun e W' => ∃ v, e = .returned v ∧ Rows.clockDriftsSpec.post enc Try.prog Try.f6 false true false false W args v W' := by
  have hW' := hW
  obtain ⟨p, q, hA0, hV, rfl, hfz, hnd⟩ := hW
  have hA : DataW.TrodAll enc Try.prog W 0 (fun _ => true) true Try.f6.params.toList args.toList ds p := hA0
  rw [Try.params6] at hA hval
  obtain ⟨v0, vs0, d0, ds0, p0, q0, hargs, rfl, rfl, h0, r0⟩ := trodAll_cons hA
  obtain ⟨v1, vs1, d1, ds1, p1, q1, rfl, rfl, rfl, h1, r1⟩ := trodAll_cons r0
  obtain ⟨v2, vs2, d2, ds2, p2, q2, rfl, rfl, rfl, h2, r2⟩ := trodAll_cons r1
  obtain ⟨rfl, rfl, rfl⟩ := trodAll_nil r2
  obtain rfl : args = #[v0, v1, v2] := by cases args; simp_all
  obtain ⟨rfl, rfl⟩ := trodVars_none hV
  obtain ⟨l0, rfl, hl0, w0⟩ := open_array Try.underlying22 Try.underlying2 (by kernel_rfl) (by kernel_rfl) (hval 0 22 v0 rfl rfl) h0
  obtain ⟨s0, s1, s2, rfl⟩ := len3 hl0
  have s0w := i64_wf (w0 s0 (by simp))
  have s1w := i64_wf (w0 s1 (by simp))
  have s2w := i64_wf (w0 s2 (by simp))
  obtain ⟨A1, ops, c1, rfl, f1, l1, lc1, sz1, nl1⟩ := open_rows (qs := [.i64, .i64, .i64]) Try.underlying23 Try.underlying33 (by kernel_rfl) rfl (fun i f q hf hq => by
    match i, hf, hq with
    | 0, hf, hq => simp at hf hq; subst hf; subst hq; exact ⟨rfl, by kernel_rfl, Try.underlying3⟩
    | 1, hf, hq => simp at hf hq; subst hf; subst hq; exact ⟨rfl, by kernel_rfl, Try.underlying2⟩
    | 2, hf, hq => simp at hf hq; subst hf; subst hq; exact ⟨rfl, by kernel_rfl, Try.underlying2⟩
    | n + 3, hf, hq => simp at hq) (hval 1 23 v1 rfl rfl) h1
  have z1 : ops.length * 24 ≤ 140737488351232 := by
    rcases sz1 with h | ⟨es, sp, hd, hl⟩
    · rw [h]; decide
    · have := sized_slice hz (j := 1) (t := 23) (e := 33) (elems := es) (spare := sp) (by rw [Try.params6]; rfl) (by rw [hd]; rfl) Try.underlying23
      rw [show Try.prog.bytesOf 33 = 24 by kernel_rfl, show reachBytes = 140737488351232 from rfl] at this
      omega
  obtain ⟨t, rfl, rfl, rfl, w2⟩ := open_int Try.underlying2 (hval 2 2 v2 rfl rfl) h2
  refine (walk s0 s1 s2 A1 ops c1 t W f1 (by omega)).mono fun e W' ⟨he, hb⟩ => ?_
  exact ⟨_, he, Shell.post_law laidOut (by kernel_rfl) rfl Try.underlying4 rfl hW' rfl hb⟩
theorem reads (os : Os) {H : Type} (enc : TypeId × Value → H) : ∃ places, DataW.whole enc Try.prog ((World.holding Try.prog os ⟨#[], #[], []⟩).forCall (fun _ _ => 0) ⟨#[], #[.agg #[.int .i64 0, .int .i64 0, .int .i64 0], .slice none 0 0, .int .i64 0], []⟩).memory Try.f6.params.toList Rows.clockDriftsSpec.vars false (#[Value.agg #[.int .i64 0, .int .i64 0, .int .i64 0], Value.slice none 0 0, Value.int .i64 0]).toList 8 = some ([.agg [.lit (.int .i64 0), .lit (.int .i64 0), .lit (.int .i64 0)], .nil, .lit (.int .i64 0)], [], places) :=
  ⟨[], by kernel_rfl⟩
set_option maxRecDepth 100000 in
theorem lifted (os : Os) (started : os.Started) (H : Type) (enc : TypeId × Value → H) (F : Stop.Interp) :
    ReturnsInHanded {} Try.checked os 6 .any ((OpenSpec.ofChange Rows.clockDriftsSpec).preRow enc Try.prog Try.f6 Rows.clockDriftsRow.domain false Rows.clockDriftsRow.laid) (((OpenSpec.ofChange Rows.clockDriftsSpec).at F).post enc Try.prog Try.f6 false true false false) := by
  obtain ⟨places, hx⟩ := reads os enc
  refine returnsInHanded_of_row (C := Try.checked) (s := OpenSpec.ofChange Rows.clockDriftsSpec) own started (by kernel_rfl) Try.func6
    (witness_row_atRef (enc := enc) (C := Try.checked) false (World.holding Try.prog os ⟨#[], #[], []⟩) #[.agg #[.int .i64 0, .int .i64 0, .int .i64 0], .slice none 0 0, .int .i64 0] rfl (by kernel_rfl) (by kernel_rfl) (by kernel_rfl)
      (OpenSpec.preRow_of_cond 8 hx (by kernel_rfl) (fun k hk => by cases hk) (by kernel_rfl) (laid_met os _))) ?_
  intro W base args ds gs before hval hW _ _ hz hL _ _
  exact contract H enc W base args ds gs before hval hW hz
theorem said : Rows.ClockDriftsSaid :=
  OpenClaim.holds_of_cond 6 Try.f6 rfl rfl rfl rfl rfl rfl rfl ⟨rfl, rfl, rfl, rfl, rfl⟩ rfl rfl rfl rfl rfl (by kernel_rfl) Try.func6 (by kernel_rfl)
    (of_decide_eq_true (by kernel_rfl)) (by unfold Func.isWrapper; first | (rw [if_pos (by decide +kernel)]; kernel_rfl) | (rw [if_neg (by decide +kernel)]; exact ⟨rfl, rfl⟩))
    (fun os started H enc _ F => by rw [OpenClaim.pre_eq_preRow]; exact lifted os started H enc F)
end Go.Proofs.Ytmpceabhnhipcaa.ClockW.ClockDrifts
