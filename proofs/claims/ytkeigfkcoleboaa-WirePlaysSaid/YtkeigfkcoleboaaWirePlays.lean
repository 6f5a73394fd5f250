/- The law WirePlays: every answer of every script of a wire is as the document says: for all delays and scripts. No condition. -/
import Derived.Test.YtkeigfkcoleboaaWireFixed
namespace Go.Proofs.Ytkeigfkcoleboaa.WireW.WirePlays
open Go.ChangeShapes Go.WideShapes Go.ChangeAt Go.RowKit FrameW WireW Shell
abbrev wk (x y z : Int) : Obj := .cells #[.int .i64 x, .int .i64 y, .int .i64 z] 50 (0, 0)
abbrev op (x y z : Int) : Obj := .cells #[.int .i64 x, .int .i64 y, .int .i64 z] 31 (0, 0)
theorem okD_false {d : Int} (h : okD d = false) : d < 0 ∨ ¬ d < 0 ∧ 1048576 < d := by
  by_cases h1 : 0 ≤ d ∧ d ≤ 1048576
  · rw [okD_iff.2 h1] at h; cases h
  · omega
set_option maxHeartbeats 8000000 in
set_option maxRecDepth 100000 in
theorem walk (d : Int) (A : Option Addr) (ops : List (List Int)) (c : Nat) (w : World) (hA : RL w [.i64, .i64, .i64] A ops) (hl : ops.length ≤ 5864062014806) :
    Calls Try.prog 3 #[.int .i64 d, .slice A ops.length c] w fun e w' => e = .returned (.bool true) ∧ Below w.heap.size w w' := by
  have HA := Lib.hid hA
  go_enter Try.func3, Try.ntmps3
  go_wp2_with fail
  refine (fixed_any _).mono ?_
  rintro e w1 ⟨rfl, b1⟩
  have S1 := Lib.hid ((Stay.start w).next b1)
  clear b1 hA
  cases hd : okD d with
  | false =>
    go_wp2_with fail
    refine (new_bad d hd _).mono ?_
    rintro e w' ⟨rfl, rfl⟩
    rcases okD_false hd with h1 | ⟨h1, h2⟩
    · go_wp2
      go_ret
      exact ⟨rfl, S1.out.b⟩
    · go_wp2
      go_ret
      exact ⟨rfl, S1.out.b⟩
  | true =>
    have HD := Lib.hid hd
    have d0 := (okD_iff.1 hd).1
    have d1 := (okD_iff.1 hd).2
    go_wp2_with fail
    refine (new_ok d hd _).mono ?_
    rintro e w2 ⟨rfl, c2, b2⟩
    have S2 := Lib.hid ((S1.out.next b2).add (o := wk d 0 0) c2)
    have NK := Lib.hid S1.out.b.size
    generalize hk : w1.heap.size = k at *
    clear S1 b2 c2 hk hd
    go_upto_region 9 with (fail)
    have S3 := Lib.hid ((S2.out.alloc (rbox d 0 0)).sub (M := [(k, wk d 0 0), (w2.heap.size, rbox d 0 0)]) (by simp))
    have NG := Lib.hid (show k < w2.heap.size from lt_of_heap (S2.out.at 0 rfl))
    generalize w2.alloc (Obj.cells #[.int .i64 d, .int .i64 0, .int .i64 0] 29) = W3 at *
    generalize hg : w2.heap.size = g at *
    clear S2 hg d0 d1
    go_wp2_with fail
    go_loopw [49] (fun iv wr => ∃ (j : Nat) (b o : Int), iv = .int .i64 j ∧ j ≤ ops.length ∧ Hid (Stay w [(k, wk d b o), (g, rbox d b o)] wr)) (fun iv _ => ops.length - (intOf iv).toNat)
    case atStart => exact ⟨0, 0, 0, rfl, Nat.zero_le _, S3⟩
    case round =>
      clear S3
      obtain ⟨j, b, o, rfl, hj, HS⟩ := hrel
      by_cases hjl : j < ops.length
      · obtain ⟨xs, hx⟩ : ∃ xs, ops[j]? = some xs := ⟨_, List.getElem?_eq_getElem hjl⟩
        obtain ⟨blk, off, x, t, n, rfl, rfl, e0, e1, e2, wx, wt, wq⟩ := (HA.out.below HS.out.b).row3 hx
        clear hx wx wt wq
        have S4 := Lib.hid ((HS.out.alloc (op x t n)).sub (M := [(k, wk d b o), (g, rbox d b o), (wr.heap.size, op x t n)]) (by simp))
        have NP := Lib.hid (show g < wr.heap.size from lt_of_heap (HS.out.at 1 rfl))
        go_upto_region 12 with (fail)
        generalize wr.alloc (Obj.cells #[.int .i64 x, .int .i64 t, .int .i64 n] 31) = W4 at *
        generalize hp : wr.heap.size = p at *
        clear HS hp e0 e1 e2
        obtain ⟨p0, p1, p2⟩ := cells3 (S4.out.at 2 rfl)
        obtain ⟨g0, g1, g2⟩ := cells3 (S4.out.at 1 rfl)
        go_wp2_with fail
        refine (refBusy_any d b o t _).mono ?_
        rintro e w5 ⟨rfl, b5⟩
        have S5 := Lib.hid (S4.out.next b5)
        clear p0 p1 p2 g0 g1 g2 b5 S4
        obtain ⟨p0, p1, p2⟩ := cells3 (S5.out.at 2 rfl)
        obtain ⟨g0, g1, g2⟩ := cells3 (S5.out.at 1 rfl)
        by_cases x1 : x = 1
        · subst x1
          by_cases hz : sndE b o t n = 0
          · have N := fun W h => send_ok k d b o t n W h HD.out hz
            have R := fun W => refSend_ok d b o t n W HD.out hz
            generalize hq : t + tim n = q at *
            generalize hr : q + d = r at *
            have HN := Lib.hid N
            have HR := Lib.hid R
            clear N R hz hq hr
            go_wp2_with fail
            refine (HN.out _ (S5.out.at 0 rfl)).mono ?_
            rintro e w6 ⟨rfl, c6, b6⟩
            have S6 := Lib.hid (S5.out.turn b6 (o' := wk d t q) c6 (by have := NK.out; omega) (by have := NK.out; have := NG.out; have := NP.out; simp; omega))
            clear b6 c6
            clear p0 p1 p2 g0 g1 g2 S5
            obtain ⟨p0, p1, p2⟩ := cells3 (S6.out.at 2 rfl)
            obtain ⟨g0, g1, g2⟩ := cells3 (S6.out.at 1 rfl)
            go_wp2_with fail
            refine (HR.out _).mono ?_
            rintro e w7 ⟨rfl, b7⟩
            have S7 := Lib.hid (S6.out.next b7)
            clear b7
            clear p0 p1 p2 g0 g1 g2 S6
            obtain ⟨p0, p1, p2⟩ := cells3 (S7.out.at 2 rfl)
            obtain ⟨g0, g1, g2⟩ := cells3 (S7.out.at 1 rfl)
            have S7y := Lib.hid ((S7.out.alloc (rbox d t q)).sub (M := [(g, rbox d b o), (k, wk d t q), (p, op 1 t n)]) (by simp))
            obtain ⟨y0, y1, y2⟩ := cells3 (S7y.out.at 0 rfl)
            obtain ⟨f0, f1, f2⟩ := frozen3 (S7y.out.at 0 rfl)
            have PS8 := put3 (S7y.out.at 0 rfl) (.int .i64 d) (.int .i64 (t)) (.int .i64 (q))
            have S8 := Lib.hid ((S7y.out.turn (kept3 _ g _ _ _) PS8 (by have := NK.out; have := NG.out; omega) (by have := NK.out; have := NG.out; have := NP.out; simp; omega)).sub (M := [(k, wk d (t) (q)), (g, rbox d (t) (q))]) (by simp))
            clear PS8
            go_wp2
            go_roundw
            case rel => exact ⟨j + 1, t, q, by simp, by omega, Lib.hid (S8.out.sub (by simp))⟩
            case measure => simp only [intOf]; omega
          · generalize hy : sndE b o t n = y at *
            have HN := Lib.hid (fun W h => send_no k d b o t n W h y hy hz)
            have HR := Lib.hid (fun W => refSend_no d b o t n W y hy hz)
            clear hy hz
            go_wp2_with fail
            refine (HN.out _ (S5.out.at 0 rfl)).mono ?_
            rintro e w' ⟨rfl, rfl⟩
            go_wp2_with fail
            refine (HR.out _).mono ?_
            rintro e w7 ⟨rfl, b7⟩
            have S7 := Lib.hid (S5.out.next b7)
            clear b7
            clear p0 p1 p2 g0 g1 g2 S5
            obtain ⟨p0, p1, p2⟩ := cells3 (S7.out.at 2 rfl)
            obtain ⟨g0, g1, g2⟩ := cells3 (S7.out.at 1 rfl)
            have S7y := Lib.hid ((S7.out.alloc (rbox d b o)).sub (M := [(g, rbox d b o), (k, wk d b o), (p, op 1 t n)]) (by simp))
            obtain ⟨y0, y1, y2⟩ := cells3 (S7y.out.at 0 rfl)
            obtain ⟨f0, f1, f2⟩ := frozen3 (S7y.out.at 0 rfl)
            have PS8 := put3 (S7y.out.at 0 rfl) (.int .i64 d) (.int .i64 (b)) (.int .i64 (o))
            have S8 := Lib.hid ((S7y.out.turn (kept3 _ g _ _ _) PS8 (by have := NK.out; have := NG.out; omega) (by have := NK.out; have := NG.out; have := NP.out; simp; omega)).sub (M := [(k, wk d (b) (o)), (g, rbox d (b) (o))]) (by simp))
            clear PS8
            go_wp2
            go_roundw
            case rel => exact ⟨j + 1, b, o, by simp, by omega, Lib.hid (S8.out.sub (by simp))⟩
            case measure => simp only [intOf]; omega
        · by_cases x2 : x = 2
          · subst x2
            cases ht : okT t with
            | false =>
              go_wp2_with fail
              refine (free_bad k t ht _).mono ?_
              rintro e w' ⟨rfl, rfl⟩
              go_wp2_with (first | (go_at_call 14; refine (real_any _ _).mono ?_; rintro e w' ⟨rfl, rfl⟩; rw [ht]))
              go_roundw
              case rel => exact ⟨j + 1, b, o, by simp, by omega, Lib.hid (S5.out.sub (by simp))⟩
              case measure => simp only [intOf]; omega
            | true =>
              go_wp2_with fail
              refine (free_ok k d b o t _ (S5.out.at 0 rfl) ht).mono ?_
              rintro e w' ⟨rfl, rfl⟩
              unfold fr
              cases hb : bsy b o t with
              | true =>
                simp only [if_true]
                go_wp2_with (first | (go_at_call 14; refine (real_any _ _).mono ?_; rintro e w' ⟨rfl, rfl⟩; rw [ht]))
                go_roundw
                case rel => exact ⟨j + 1, b, o, by simp, by omega, Lib.hid (S5.out.sub (by simp))⟩
                case measure => simp only [intOf]; omega
              | false =>
                simp only [if_false, Bool.false_eq_true]
                go_wp2_with (first | (go_at_call 14; refine (real_any _ _).mono ?_; rintro e w' ⟨rfl, rfl⟩; rw [ht]))
                go_roundw
                case rel => exact ⟨j + 1, b, o, by simp, by omega, Lib.hid (S5.out.sub (by simp))⟩
                case measure => simp only [intOf]; omega
          · by_cases x3 : x = 3
            · subst x3
              cases hb : bsy b o t with
              | false =>
                go_wp2_with fail
                refine (cut_no k d b o t _ (S5.out.at 0 rfl) hb).mono ?_
                rintro e w' ⟨rfl, rfl⟩
                go_wp2
                go_roundw
                case rel => exact ⟨j + 1, b, o, by simp, by omega, Lib.hid (S5.out.sub (by simp))⟩
                case measure => simp only [intOf]; omega
              | true =>
                go_wp2_with fail
                refine (cut_yes k d b o t _ (S5.out.at 0 rfl) hb).mono ?_
                rintro e w6 ⟨rfl, c6, b6⟩
                have S6 := Lib.hid (S5.out.turn b6 (o' := wk d b t) c6 (by have := NK.out; omega) (by have := NK.out; have := NG.out; have := NP.out; simp; omega))
                clear b6 c6
                clear p0 p1 p2 g0 g1 g2 S5
                obtain ⟨p0, p1, p2⟩ := cells3 (S6.out.at 2 rfl)
                obtain ⟨g0, g1, g2⟩ := cells3 (S6.out.at 1 rfl)
                obtain ⟨f0, f1, f2⟩ := frozen3 (S6.out.at 1 rfl)
                have P8 : (w6.setCell ⟨g, 2, none⟩ (.int .i64 t)).heap[g]? = some (rbox d b t) := heap_setCell_same w6 g 2 _ _ _ (S6.out.at 1 rfl)
                have S8 := Lib.hid (((S6.out.sub (M := [(g, rbox d b o), (k, wk d b t), (p, op 3 t n)]) (by simp)).turn (kept1 _ g 2 _) P8 (by have := NK.out; have := NG.out; omega) (by have := NK.out; have := NG.out; have := NP.out; simp; omega)).sub (M := [(k, wk d b t), (g, rbox d b t)]) (by simp))
                clear P8
                go_wp2
                go_roundw
                case rel => exact ⟨j + 1, b, t, by simp, by omega, Lib.hid (S8.out.sub (by simp))⟩
                case measure => simp only [intOf]; omega
            · have y1 : (x == 1) = false := by simpa using x1
              have y2 : (x == 2) = false := by simpa using x2
              have y3 : (x == 3) = false := by simpa using x3
              go_wp2
              go_roundw
              case rel => exact ⟨j + 1, b, o, by simp, by omega, Lib.hid (S5.out.sub (by simp))⟩
              case measure => simp only [intOf]; omega
      · have ej : j = ops.length := by omega
        subst ej
        go_wp2
        go_ret
        exact ⟨rfl, HS.out.b⟩
set_option maxRecDepth 100000 in
/-- What the walk gives, for every argument and every world. -/
theorem contract (H : Type) (enc : TypeId × Value → H) (W : World) (base : Nat) (args : Array Value) (ds gs : List (DataW H)) (before : List MemPlace)
    (hval : ∀ (j : Nat) t v, Try.f3.params[j]? = some t → args[j]? = some v → Value.okWide Try.prog W .any base t v)
    (hW : DataW.Whole enc Try.prog Try.f3.params.toList Rows.wirePlaysSpec.vars false W args.toList ds gs before) (hz : (DataW.weightsEach Try.prog (Try.f3.params.toList ++ (OpenSpec.ofChange Rows.wirePlaysSpec).bare.plain.varTypes Try.prog) (ds ++ gs)).all (· ≤ reachBytes) = true) : 
    Calls Try.prog 3 args W fun e W' => ∃ v, e = .returned v ∧ Rows.wirePlaysSpec.post enc Try.prog Try.f3 false true false false W args v W' := by
  have hW' := hW
  obtain ⟨p, q, hA0, hV, rfl, hfz, hnd⟩ := hW
  have hA : DataW.TrodAll enc Try.prog W 0 (fun _ => true) true Try.f3.params.toList args.toList ds p := hA0
  rw [Try.params3] at hA hval
  obtain ⟨v0, vs0, d0, ds0, p0, q0, hargs, rfl, rfl, h0, r0⟩ := trodAll_cons hA
  obtain ⟨v1, vs1, d1, ds1, p1, q1, rfl, rfl, rfl, h1, r1⟩ := trodAll_cons r0
  obtain ⟨rfl, rfl, rfl⟩ := trodAll_nil r1
  obtain rfl : args = #[v0, v1] := by cases args; simp_all
  obtain ⟨rfl, rfl⟩ := trodVars_none hV
  obtain ⟨d, rfl, rfl, rfl, w0⟩ := open_int Try.underlying2 (hval 0 2 v0 rfl rfl) h0
  obtain ⟨A1, ops, c1, rfl, f1, l1, lc1, sz1, nl1⟩ := open_rows (qs := [.i64, .i64, .i64]) Try.underlying22 Try.underlying31 (by kernel_rfl) rfl (fun i f q hf hq => by
    match i, hf, hq with
    | 0, hf, hq => simp at hf hq; subst hf; subst hq; exact ⟨rfl, by kernel_rfl, Try.underlying3⟩
    | 1, hf, hq => simp at hf hq; subst hf; subst hq; exact ⟨rfl, by kernel_rfl, Try.underlying2⟩
    | 2, hf, hq => simp at hf hq; subst hf; subst hq; exact ⟨rfl, by kernel_rfl, Try.underlying3⟩
    | n + 3, hf, hq => simp at hq) (hval 1 22 v1 rfl rfl) h1
  have z1 : ops.length * 24 ≤ 140737488351232 := by
    rcases sz1 with h | ⟨es, sp, hd, hl⟩
    · rw [h]; decide
    · have := sized_slice hz (j := 1) (t := 22) (e := 31) (elems := es) (spare := sp) (by rw [Try.params3]; rfl) (by rw [hd]; rfl) Try.underlying22
      rw [show Try.prog.bytesOf 31 = 24 by kernel_rfl, show reachBytes = 140737488351232 from rfl] at this
      omega
  refine (walk d A1 ops c1 W f1 (by omega)).mono fun e W' ⟨he, hb⟩ => ?_
  exact ⟨_, he, Shell.post_law laidOut (by kernel_rfl) rfl Try.underlying4 rfl hW' rfl hb⟩
theorem reads (os : Os) {H : Type} (enc : TypeId × Value → H) : ∃ places, DataW.whole enc Try.prog ((World.holding Try.prog os ⟨#[], #[], []⟩).forCall (fun _ _ => 0) ⟨#[], #[.int .i64 0, .slice none 0 0], []⟩).memory Try.f3.params.toList Rows.wirePlaysSpec.vars false (#[Value.int .i64 0, Value.slice none 0 0]).toList 8 = some ([.lit (.int .i64 0), .nil], [], places) :=
  ⟨[], by kernel_rfl⟩
set_option maxRecDepth 100000 in
theorem lifted (os : Os) (started : os.Started) (H : Type) (enc : TypeId × Value → H) (F : Stop.Interp) :
    ReturnsInHanded {} Try.checked os 3 .any ((OpenSpec.ofChange Rows.wirePlaysSpec).preRow enc Try.prog Try.f3 Rows.wirePlaysRow.domain false Rows.wirePlaysRow.laid) (((OpenSpec.ofChange Rows.wirePlaysSpec).at F).post enc Try.prog Try.f3 false true false false) := by
  obtain ⟨places, hx⟩ := reads os enc
  refine returnsInHanded_of_row (C := Try.checked) (s := OpenSpec.ofChange Rows.wirePlaysSpec) own started (by kernel_rfl) Try.func3
    (witness_row_atRef (enc := enc) (C := Try.checked) false (World.holding Try.prog os ⟨#[], #[], []⟩) #[.int .i64 0, .slice none 0 0] rfl (by kernel_rfl) (by kernel_rfl) (by kernel_rfl)
      (OpenSpec.preRow_of_cond 8 hx (by kernel_rfl) (fun k hk => by cases hk) (by kernel_rfl) (laid_met os _))) ?_
  intro W base args ds gs before hval hW _ _ hz hL _ _
  exact contract H enc W base args ds gs before hval hW hz
theorem said : Rows.WirePlaysSaid :=
  OpenClaim.holds_of_cond 3 Try.f3 rfl rfl rfl rfl rfl rfl rfl ⟨rfl, rfl, rfl, rfl, rfl⟩ rfl rfl rfl rfl rfl (by kernel_rfl) Try.func3 (by kernel_rfl)
    (of_decide_eq_true (by kernel_rfl)) (by unfold Func.isWrapper; first | (rw [if_pos (by decide +kernel)]; kernel_rfl) | (rw [if_neg (by decide +kernel)]; exact ⟨rfl, rfl⟩))
    (fun os started H enc _ F => by rw [OpenClaim.pre_eq_preRow]; exact lifted os started H enc F)
end Go.Proofs.Ytkeigfkcoleboaa.WireW.WirePlays
