/- The law CompAlone: a collection of one frame is that frame: its time, its host, its cycle: for all times, hosts and cycles. No condition. -/
import Derived.Test.YtpjaijibkjmgiaaCompFixed
namespace Go.Proofs.Ytpjaijibkjmgiaa.CompW.CompAlone
open Go.ChangeShapes Go.WideShapes Go.ChangeAt Go.RowKit CompW Shell
open FrameW (CV rightC)
open MeanW (halfAt tolK srt)
theorem pt_one (x : Fr) : pt [x] = x.t := by
  have e : tolK [x.t] = 0 := by unfold tolK; simp
  show halfAt [x.t] (tolK [x.t]) = x.t
  rw [e]
  exact MeanW.twins_half x.t 1 0 (by decide)
theorem cy_one (x : Fr) : cy [x] = x.y := by
  have B := best_is [x.y] [x.y] (fun _ h => h)
  rcases B.one with ⟨h1, _⟩ | ⟨h1, _⟩
  · cases h1
  · exact List.mem_singleton.1 h1
theorem sS_one (x : Fr) : sS [x] = CrewW.only (x.f : Int) := CrewW.of_one _
set_option maxHeartbeats 4000000 in
set_option maxRecDepth 100000 in
theorem walk (t h y : Int) (hh : 0 ≤ h ∧ h ≤ 255) (w : World) :
    Calls Try.prog 7 #[.int .i64 t, .int .u8 h, .int .i64 y] w fun e w' => e = .returned (.bool true) ∧ Below w.heap.size w w' := by
  obtain ⟨n, rfl⟩ := Int.eq_ofNat_of_zero_le hh.1
  obtain ⟨f, hf⟩ : ∃ f, n % 6 = f := ⟨_, rfl⟩
  have f6 : f < 6 := by omega
  have m1 : (n : Int) % 6 = (f : Int) := by omega
  have m2 : Int.tmod (n : Int) 6 = (f : Int) := by rw [Int.tmod_eq_emod_of_nonneg (by omega)]; exact m1
  have n255 : (n : Int) ≤ 255 := hh.2
  have fb : (f : Int) < 6 := by omega
  clear hh hf
  go_enter Try.func7, Try.ntmps7
  go_wp2_with fail
  refine (fixed_any _).mono ?_
  rintro e w1 ⟨rfl, b1⟩
  have S1 := Lib.hid ((Stay.start w).next b1)
  clear b1
  go_wp2_with fail
  refine (new_ok 50 (by decide) _).mono ?_
  rintro e w2 ⟨rfl, h2, b2⟩
  have P := Lib.hid (pc_new S1.out (by decide) h2 b2)
  generalize w1.heap.size = g at *
  clear h2 b2 S1
  go_upto_region 6 with (fail)
  have P2 := Lib.hid (P.out.alloc (cb 1 f y 0 0))
  generalize w2.alloc (cb 1 f y 0 0) = w3 at *
  generalize w2.heap.size = q at *
  clear P
  obtain ⟨d0, d1, d2, d3, d4⟩ := FrameW.cells5 (P2.out.st.at 0 rfl)
  by_cases ok : (-1125899906842624 ≤ t ∧ t ≤ 1125899906842624) ∧ 0 ≤ y ∧ y ≤ 1125899906842624
  · obtain ⟨ht, hy⟩ := ok
    have Q := P2.out.put t f y 0 0 (by unfold rightC; omega) f6 ht (Or.inl rfl) (by simp)
    rw [List.nil_append, show sB [(⟨t, f, y, 0, 0⟩ : Fr)] = t from rfl] at Q
    have Q := Lib.hid Q
    go_wp2_with fail
    refine Q.out.mono ?_
    rintro e w4 ⟨rfl, p4, -⟩
    have P3 := Lib.hid p4
    have C := P3.out.shut (by simp) (t + 50) (by show t + 50 ≤ t + 50; omega)
    rw [pt_one, cy_one] at C
    have hs := sS_one ⟨t, f, y, 0, 0⟩
    generalize sS [(⟨t, f, y, 0, 0⟩ : Fr)] = sz at *
    have HS := Lib.hid hs
    clear hs
    have C := Lib.hid C
    clear p4 P2 Q d0 d1 d2 d3 d4
    go_wp2_with fail
    refine C.out.mono ?_
    rintro e w5 ⟨rfl, p5, -⟩
    have P5 := Lib.hid (p5.alloc (rbx t sz y))
    clear p5 P3 C
    go_upto_region 10 with (fail)
    generalize w5.alloc (rbx t sz y) = w6 at *
    generalize w5.heap.size = q5 at *
    obtain ⟨c0, c1, c2⟩ := cells3 (P5.out.st.at 0 rfl)
    have e1 : IntKind.i64.wrap (t + 50) = t + 50 := by rw [IntKind.wrap_i64]; omega
    have q2 := guardR
    rcases (show f = 0 ∨ f = 1 ∨ f = 2 ∨ f = 3 ∨ f = 4 ∨ f = 5 by omega) with rfl | rfl | rfl | rfl | rfl | rfl
    · have hz : sz = 1 := HS.out.trans (by decide)
      clear HS
      subst hz
      have q1 := eql_res t 1 y
      go_wp2
      go_ret
      exact ⟨rfl, P5.out.st.b⟩
    · have hz : sz = 2 := HS.out.trans (by decide)
      clear HS
      subst hz
      have q1 := eql_res t 2 y
      go_wp2
      go_ret
      exact ⟨rfl, P5.out.st.b⟩
    · have hz : sz = 4 := HS.out.trans (by decide)
      clear HS
      subst hz
      have q1 := eql_res t 4 y
      go_wp2
      go_ret
      exact ⟨rfl, P5.out.st.b⟩
    · have hz : sz = 8 := HS.out.trans (by decide)
      clear HS
      subst hz
      have q1 := eql_res t 8 y
      go_wp2
      go_ret
      exact ⟨rfl, P5.out.st.b⟩
    · have hz : sz = 16 := HS.out.trans (by decide)
      clear HS
      subst hz
      have q1 := eql_res t 16 y
      go_wp2
      go_ret
      exact ⟨rfl, P5.out.st.b⟩
    · have hz : sz = 32 := HS.out.trans (by decide)
      clear HS
      subst hz
      have q1 := eql_res t 32 y
      go_wp2
      go_ret
      exact ⟨rfl, P5.out.st.b⟩
  · have hno : okL t = false ∨ okH 1 f y 0 0 = false := by
      by_cases ht : -1125899906842624 ≤ t ∧ t ≤ 1125899906842624
      · right
        unfold okH
        rw [decide_eq_false (by unfold rightC; omega)]
        rfl
      · left
        unfold okL
        simp
        omega
    have Q := Lib.hid (P2.out.no_arg t 1 f y 0 0 (by decide) hno)
    clear hno
    go_wp2_with fail
    refine Q.out.mono ?_
    rintro e w4 ⟨rfl, p4, -⟩
    have P3 := Lib.hid p4
    clear p4 P2 Q d0 d1 d2 d3 d4
    by_cases h1 : y < 0
    · clear ok
      go_wp2
      go_ret
      exact ⟨rfl, P3.out.st.b⟩
    · by_cases h2 : 1125899906842624 < y
      · clear ok
        go_wp2
        go_ret
        exact ⟨rfl, P3.out.st.b⟩
      · by_cases h3 : t < -1125899906842624
        · clear ok
          go_wp2
          go_ret
          exact ⟨rfl, P3.out.st.b⟩
        · have h4 : 1125899906842624 < t := by omega
          clear ok
          go_wp2
          go_ret
          exact ⟨rfl, P3.out.st.b⟩
set_option maxRecDepth 100000 in
/-- What the walk gives, for every argument and every world. -/
theorem contract (H : Type) (enc : TypeId × Value → H) (W : World) (base : Nat) (args : Array Value) (ds gs : List (DataW H)) (before : List MemPlace)
    (hval : ∀ (j : Nat) t v, Try.f7.params[j]? = some t → args[j]? = some v → Value.okWide Try.prog W .any base t v)
    (hW : DataW.Whole enc Try.prog Try.f7.params.toList Rows.compAloneSpec.vars false W args.toList ds gs before) : 
    Calls Try.prog 7 args W fun e W' => ∃ v, e = .returned v ∧ Rows.compAloneSpec.post enc Try.prog Try.f7 false true false false W args v W' := by
  have hW' := hW
  obtain ⟨p, q, hA0, hV, rfl, hfz, hnd⟩ := hW
  have hA : DataW.TrodAll enc Try.prog W 0 (fun _ => true) true Try.f7.params.toList args.toList ds p := hA0
  rw [Try.params7] at hA hval
  obtain ⟨v0, vs0, d0, ds0, p0, q0, hargs, rfl, rfl, h0, r0⟩ := trodAll_cons hA
  obtain ⟨v1, vs1, d1, ds1, p1, q1, rfl, rfl, rfl, h1, r1⟩ := trodAll_cons r0
  obtain ⟨v2, vs2, d2, ds2, p2, q2, rfl, rfl, rfl, h2, r2⟩ := trodAll_cons r1
  obtain ⟨rfl, rfl, rfl⟩ := trodAll_nil r2
  obtain rfl : args = #[v0, v1, v2] := by cases args; simp_all
  obtain ⟨rfl, rfl⟩ := trodVars_none hV
  obtain ⟨t, rfl, rfl, rfl, w0⟩ := open_int Try.underlying2 (hval 0 2 v0 rfl rfl) h0
  obtain ⟨h, rfl, rfl, rfl, w1⟩ := open_int Try.underlying5 (hval 1 5 v1 rfl rfl) h1
  obtain ⟨y, rfl, rfl, rfl, w2⟩ := open_int Try.underlying2 (hval 2 2 v2 rfl rfl) h2
  refine (walk t h y (u8_wf w1) W).mono fun e W' ⟨he, hb⟩ => ?_
  exact ⟨_, he, Shell.post_law laidOut (by kernel_rfl) rfl Try.underlying4 rfl hW' rfl hb⟩
theorem reads (os : Os) {H : Type} (enc : TypeId × Value → H) : ∃ places, DataW.whole enc Try.prog ((World.holding Try.prog os ⟨#[], #[], []⟩).forCall (fun _ _ => 0) ⟨#[], #[.int .i64 0, .int .u8 0, .int .i64 0], []⟩).memory Try.f7.params.toList Rows.compAloneSpec.vars false (#[Value.int .i64 0, Value.int .u8 0, Value.int .i64 0]).toList 8 = some ([.lit (.int .i64 0), .lit (.int .u8 0), .lit (.int .i64 0)], [], places) :=
  ⟨[], by kernel_rfl⟩
set_option maxRecDepth 100000 in
theorem lifted (os : Os) (started : os.Started) (H : Type) (enc : TypeId × Value → H) (F : Stop.Interp) :
    ReturnsInHanded {} Try.checked os 7 .any ((OpenSpec.ofChange Rows.compAloneSpec).preRow enc Try.prog Try.f7 Rows.compAloneRow.domain false Rows.compAloneRow.laid) (((OpenSpec.ofChange Rows.compAloneSpec).at F).post enc Try.prog Try.f7 false true false false) := by
  obtain ⟨places, hx⟩ := reads os enc
  refine returnsInHanded_of_row (C := Try.checked) (s := OpenSpec.ofChange Rows.compAloneSpec) own started (by kernel_rfl) Try.func7
    (witness_row_atRef (enc := enc) (C := Try.checked) false (World.holding Try.prog os ⟨#[], #[], []⟩) #[.int .i64 0, .int .u8 0, .int .i64 0] rfl (by kernel_rfl) (by kernel_rfl) (by kernel_rfl)
      (OpenSpec.preRow_of_cond 8 hx (by kernel_rfl) (fun k hk => by cases hk) (by kernel_rfl) (laid_met os _))) ?_
  intro W base args ds gs before hval hW _ _ _ hL _ _
  exact contract H enc W base args ds gs before hval hW
theorem said : Rows.CompAloneSaid :=
  OpenClaim.holds_of_cond 7 Try.f7 rfl rfl rfl rfl rfl rfl rfl ⟨rfl, rfl, rfl, rfl, rfl⟩ rfl rfl rfl rfl rfl (by kernel_rfl) Try.func7 (by kernel_rfl)
    (of_decide_eq_true (by kernel_rfl)) (by unfold Func.isWrapper; first | (rw [if_pos (by decide +kernel)]; kernel_rfl) | (rw [if_neg (by decide +kernel)]; exact ⟨rfl, rfl⟩))
    (fun os started H enc _ F => by rw [OpenClaim.pre_eq_preRow]; exact lifted os started H enc F)
end Go.Proofs.Ytpjaijibkjmgiaa.CompW.CompAlone
