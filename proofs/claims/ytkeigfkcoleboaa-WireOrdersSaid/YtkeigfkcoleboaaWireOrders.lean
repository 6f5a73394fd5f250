/- The law WireOrders: what is sent as soon as the wire is free arrives in its order, each frame at least its own time behind the one ahead: for all delays and wishes. No condition. -/
import Derived.Test.YtkeigfkcoleboaaWireFixed
namespace Go.Proofs.Ytkeigfkcoleboaa.WireW.WireOrders
open Go.ChangeShapes Go.WideShapes Go.ChangeAt Go.RowKit FrameW WireW Shell
abbrev wk (x y z : Int) : Obj := .cells #[.int .i64 x, .int .i64 y, .int .i64 z] 50 (0, 0)
abbrev op (x y z : Int) : Obj := .cells #[.int .i64 x, .int .i64 y, .int .i64 z] 31 (0, 0)
/-- What holds of the last frame's arrival, its beginning and its end. -/
def Last (d b o l m : Int) : Prop := 0 ≤ b ∧ b ≤ m ∧ 0 ≤ o ∧ (l = -1 ∨ l = o + d ∧ o ≤ 1125899906854768)
theorem fr_low {b o t : Int} (h : b ≤ t) : o ≤ fr b o t ∧ t ≤ fr b o t ∧ b ≤ fr b o t := by
  unfold fr bsy
  by_cases h1 : t < o
  · rw [decide_eq_true h, decide_eq_true h1]
    simp only [Bool.and_true, if_true]
    omega
  · rw [decide_eq_true h, decide_eq_false h1]
    simp only [Bool.and_false, if_false, Bool.false_eq_true]
    omega
theorem snd_in {b o t n : Int} (ht : okT t = true) (hn : okS n = true) (h1 : o ≤ t) (h2 : b ≤ t) : sndE b o t n = 0 := by
  unfold sndE
  rw [ht, hn, show bsy b o t = false by unfold bsy; rw [decide_eq_false (by omega : ¬ t < o), Bool.and_false]]
  simp only [Bool.and_true, if_true, Bool.false_eq_true, if_false]
  rw [if_neg (by omega)]
theorem snd_size {b o t n : Int} (hn : okS n = false) : sndE b o t n = 1 := by
  unfold sndE
  rw [hn, Bool.and_false]
  rfl
theorem okS_false {n : Int} (h : okS n = false) : n < 64 ∨ ¬ n < 64 ∧ 1518 < n := by
  by_cases h1 : 64 ≤ n ∧ n ≤ 1518
  · rw [okS_iff.2 h1] at h; cases h
  · omega
set_option maxHeartbeats 8000000 in
set_option maxRecDepth 100000 in
theorem walk (d : Int) (A : Option Addr) (ops : List (List Int)) (c : Nat) (w : World) (hA : RL w [.i64, .i64, .i64] A ops) (hl : ops.length ≤ 5864062014806) :
    Calls Try.prog 4 #[.int .i64 d, .slice A ops.length c] w fun e w' => e = .returned (.bool true) ∧ Below w.heap.size w w' := by
  have HA := Lib.hid hA
  go_enter Try.func4, Try.ntmps4
  go_wp2_with fail
  refine (fixed_any _).mono ?_
  rintro e w1 ⟨rfl, b1⟩
  have S1 := Lib.hid ((Stay.start w).next b1)
  clear b1 hA
  cases hd : okD d with
  | false =>
    go_wp2_with fail
    refine (new_bad d hd _).mono ?_
    rintro e w' ⟨rfl, rfl⟩
    go_wp2
    go_ret
    exact ⟨rfl, S1.out.b⟩
  | true =>
    have HD := Lib.hid hd
    have d0 := (okD_iff.1 hd).1
    have d1 := (okD_iff.1 hd).2
    have DD := Lib.hid (And.intro d0 d1)
    go_wp2_with fail
    refine (new_ok d hd _).mono ?_
    rintro e w2 ⟨rfl, c2, b2⟩
    have S2 := Lib.hid ((S1.out.next b2).add (o := wk d 0 0) c2)
    have NK := Lib.hid S1.out.b.size
    generalize hk : w1.heap.size = k at *
    clear S1 b2 c2 hk hd d0 d1
    go_wp2_with fail
    go_loopw [7, 8, 28] (fun lv nv iv wr => ∃ (j : Nat) (b o l m : Int), lv = .int .i64 l ∧ nv = .int .i64 m ∧ iv = .int .i64 j ∧ j ≤ ops.length ∧ Hid (Last d b o l m) ∧ Hid (Stay w [(k, wk d b o)] wr)) (fun _ _ iv _ => ops.length - (intOf iv).toNat)
    case atStart => exact ⟨0, 0, 0, _, _, rfl, rfl, rfl, Nat.zero_le _, Lib.hid ⟨by decide, by decide, by decide, Or.inl rfl⟩, S2⟩
    case round =>
      clear S2
      obtain ⟨j, b, o, l, m, rfl, rfl, rfl, hj, HL, HS⟩ := hrel
      by_cases hjl : j < ops.length
      · obtain ⟨xs, hx⟩ : ∃ xs, ops[j]? = some xs := ⟨_, List.getElem?_eq_getElem hjl⟩
        obtain ⟨blk, off, x, t, n, rfl, rfl, e0, e1, e2, wx, wt, wq⟩ := (HA.out.below HS.out.b).row3 hx
        clear hx wx wt wq
        have S4 := Lib.hid ((HS.out.alloc (op x t n)).sub (M := [(k, wk d b o), (wr.heap.size, op x t n)]) (by simp))
        have NP := Lib.hid (show k < wr.heap.size from lt_of_heap (HS.out.at 0 rfl))
        go_upto_region 10 with (fail)
        generalize wr.alloc (Obj.cells #[.int .i64 x, .int .i64 t, .int .i64 n] 31) = W4 at *
        generalize hp : wr.heap.size = p at *
        clear HS hp e0 e1 e2
        obtain ⟨p0, p1, p2⟩ := cells3 (S4.out.at 1 rfl)
        go_upto_region 11 with (fail)
        have hm : m ≤ (if m < t then t else m) := by split <;> omega
        generalize (if m < t then t else m) = m2 at *
        have HL' := HL.out
        obtain ⟨l0, l1, l2, l3⟩ := HL'
        cases ht : okT m2 with
        | false =>
          go_wp2_with fail
          refine (free_bad k m2 ht _).mono ?_
          rintro e w' ⟨rfl, rfl⟩
          go_wp2
          go_ret
          exact ⟨rfl, S4.out.b⟩
        | true =>
          obtain ⟨q1, q2, q3⟩ := fr_low (o := o) (show b ≤ m2 by omega)
          go_wp2_with fail
          refine (free_ok k d b o m2 _ (S4.out.at 0 rfl) ht).mono ?_
          rintro e w' ⟨rfl, rfl⟩
          generalize fr b o m2 = q at *
          by_cases hq : 1125899906842624 < q
          · go_wp2
            go_ret
            exact ⟨rfl, S4.out.b⟩
          · have hqt : okT q = true := okT_iff.2 (by omega)
            cases hn : okS n with
            | false =>
              go_wp2_with fail
              refine (send_no k d b o q n _ (S4.out.at 0 rfl) 1 (snd_size hn) (by decide)).mono ?_
              rintro e w' ⟨rfl, rfl⟩
              have HN := Lib.hid (show Last d b o l m2 from ⟨l0, by omega, l2, l3⟩)
              rcases okS_false hn with h1 | ⟨h1, h2⟩
              · clear l3
                go_wp2
                go_roundw
                case rel => exact ⟨j + 1, b, o, l, m2, rfl, rfl, by simp, by omega, HN, Lib.hid (S4.out.sub (by simp))⟩
                case measure => simp only [intOf]; omega
              · clear l3
                go_wp2
                go_roundw
                case rel => exact ⟨j + 1, b, o, l, m2, rfl, rfl, by simp, by omega, HN, Lib.hid (S4.out.sub (by simp))⟩
                case measure => simp only [intOf]; omega
            | true =>
              have hs := snd_in hqt hn q1 q3
              have n1 := (okS_iff.1 hn).1
              have n2 := (okS_iff.1 hn).2
              have tb := tim_bounds n
              have dd := DD.out
              go_wp2_with fail
              refine (send_ok k d b o q n _ (S4.out.at 0 rfl) HD.out hs).mono ?_
              rintro e w6 ⟨rfl, c6, b6⟩
              have S6 := Lib.hid (S4.out.turn b6 (o' := wk d q (q + tim n)) c6 (by have := NK.out; omega) (by have := NP.out; simp; omega))
              clear b6 c6 p0 p1 p2 S4
              obtain ⟨p0, p1, p2⟩ := cells3 (S6.out.at 1 rfl)
              have TM := Lib.hid (fun w => time_any n w)
              generalize tim n = z at *
              have HN := Lib.hid (show Last d q (q + z) (q + z + d) q from ⟨by omega, by omega, by omega, Or.inr ⟨rfl, by omega⟩⟩)
              have w1 : wrap64 (q + z) = q + z := by unfold wrap64; omega
              have w2 : wrap64 (q + z + d) = q + z + d := by unfold wrap64; omega
              rcases l3 with hl1 | ⟨hl1, hl2⟩
              · subst hl1
                go_wp2_with (first | (go_at_call 16; refine (TM.out _).mono ?_; rintro e w' ⟨rfl, hw⟩; obtain rfl := hw.symm))
                go_roundw
                case rel => exact ⟨j + 1, q, q + z, q + z + d, q, rfl, rfl, by simp, by omega, HN, Lib.hid (S6.out.sub (by simp))⟩
                case measure => simp only [intOf]; omega
              · have w3 : wrap64 (l + z) = l + z := by unfold wrap64; omega
                have h0 : 0 ≤ l := by omega
                have h1 : ¬ q + z + d < l + z := by omega
                clear hl1
                go_wp2_with (first | (go_at_call 16; refine (TM.out _).mono ?_; rintro e w' ⟨rfl, hw⟩; obtain rfl := hw.symm))
                go_roundw
                case rel => exact ⟨j + 1, q, q + z, q + z + d, q, rfl, rfl, by simp, by omega, HN, Lib.hid (S6.out.sub (by simp))⟩
                case measure => simp only [intOf]; omega
      · have ej : j = ops.length := by omega
        subst ej
        go_wp2
        go_ret
        exact ⟨rfl, HS.out.b⟩
set_option maxRecDepth 100000 in
/-- What the walk gives, for every argument and every world. -/
theorem contract (H : Type) (enc : TypeId × Value → H) (W : World) (base : Nat) (args : Array Value) (ds gs : List (DataW H)) (before : List MemPlace)
    (hval : ∀ (j : Nat) t v, Try.f4.params[j]? = some t → args[j]? = some v → Value.okWide Try.prog W .any base t v)
    (hW : DataW.Whole enc Try.prog Try.f4.params.toList Rows.wireOrdersSpec.vars false W args.toList ds gs before) (hz : (DataW.weightsEach Try.prog (Try.f4.params.toList ++ (OpenSpec.ofChange Rows.wireOrdersSpec).bare.plain.varTypes Try.prog) (ds ++ gs)).all (· ≤ reachBytes) = true) : 
    Calls Try.prog 4 args W fun e W' => ∃ v, e = .returned v ∧ Rows.wireOrdersSpec.post enc Try.prog Try.f4 false true false false W args v W' := by
  have hW' := hW
  obtain ⟨p, q, hA0, hV, rfl, hfz, hnd⟩ := hW
  have hA : DataW.TrodAll enc Try.prog W 0 (fun _ => true) true Try.f4.params.toList args.toList ds p := hA0
  rw [Try.params4] at hA hval
  obtain ⟨v0, vs0, d0, ds0, p0, q0, hargs, rfl, rfl, h0, r0⟩ := trodAll_cons hA
  obtain ⟨v1, vs1, d1, ds1, p1, q1, rfl, rfl, rfl, h1, r1⟩ := trodAll_cons r0
  obtain ⟨rfl, rfl, rfl⟩ := trodAll_nil r1
  obtain rfl : args = #[v0, v1] := by cases args; simp_all
  obtain ⟨rfl, rfl⟩ := trodVars_none hV
  obtain ⟨d, rfl, rfl, rfl, w0⟩ := open_int Try.underlying2 (hval 0 2 v0 rfl rfl) h0
  obtain ⟨A1, ops, c1, rfl, f1, l1, lc1, sz1, nl1⟩ := open_rows (qs := [.i64, .i64, .i64]) Try.underlying22 Try.underlying31 (by kernel_rfl) rfl (fun i f q hf hq => by
    match i, hf, hq with
    | 0, hf, hq => simp at hf hq; subst hf; subst hq; exact ⟨rfl, by kernel_rfl, Try.underlying3⟩
    | 1, hf, hq => simp at hf hq; subst hf; subst hq; exact ⟨rfl, by kernel_rfl, Try.underlying2⟩
    | 2, hf, hq => simp at hf hq; subst hf; subst hq; exact ⟨rfl, by kernel_rfl, Try.underlying3⟩
    | n + 3, hf, hq => simp at hq) (hval 1 22 v1 rfl rfl) h1
  have z1 : ops.length * 24 ≤ 140737488351232 := by
    rcases sz1 with h | ⟨es, sp, hd, hl⟩
    · rw [h]; decide
    · have := sized_slice hz (j := 1) (t := 22) (e := 31) (elems := es) (spare := sp) (by rw [Try.params4]; rfl) (by rw [hd]; rfl) Try.underlying22
      rw [show Try.prog.bytesOf 31 = 24 by kernel_rfl, show reachBytes = 140737488351232 from rfl] at this
      omega
  refine (walk d A1 ops c1 W f1 (by omega)).mono fun e W' ⟨he, hb⟩ => ?_
  exact ⟨_, he, Shell.post_law laidOut (by kernel_rfl) rfl Try.underlying4 rfl hW' rfl hb⟩
theorem reads (os : Os) {H : Type} (enc : TypeId × Value → H) : ∃ places, DataW.whole enc Try.prog ((World.holding Try.prog os ⟨#[], #[], []⟩).forCall (fun _ _ => 0) ⟨#[], #[.int .i64 0, .slice none 0 0], []⟩).memory Try.f4.params.toList Rows.wireOrdersSpec.vars false (#[Value.int .i64 0, Value.slice none 0 0]).toList 8 = some ([.lit (.int .i64 0), .nil], [], places) :=
  ⟨[], by kernel_rfl⟩
set_option maxRecDepth 100000 in
theorem lifted (os : Os) (started : os.Started) (H : Type) (enc : TypeId × Value → H) (F : Stop.Interp) :
    ReturnsInHanded {} Try.checked os 4 .any ((OpenSpec.ofChange Rows.wireOrdersSpec).preRow enc Try.prog Try.f4 Rows.wireOrdersRow.domain false Rows.wireOrdersRow.laid) (((OpenSpec.ofChange Rows.wireOrdersSpec).at F).post enc Try.prog Try.f4 false true false false) := by
  obtain ⟨places, hx⟩ := reads os enc
  refine returnsInHanded_of_row (C := Try.checked) (s := OpenSpec.ofChange Rows.wireOrdersSpec) own started (by kernel_rfl) Try.func4
    (witness_row_atRef (enc := enc) (C := Try.checked) false (World.holding Try.prog os ⟨#[], #[], []⟩) #[.int .i64 0, .slice none 0 0] rfl (by kernel_rfl) (by kernel_rfl) (by kernel_rfl)
      (OpenSpec.preRow_of_cond 8 hx (by kernel_rfl) (fun k hk => by cases hk) (by kernel_rfl) (laid_met os _))) ?_
  intro W base args ds gs before hval hW _ _ hz hL _ _
  exact contract H enc W base args ds gs before hval hW hz
theorem said : Rows.WireOrdersSaid :=
  OpenClaim.holds_of_cond 4 Try.f4 rfl rfl rfl rfl rfl rfl rfl ⟨rfl, rfl, rfl, rfl, rfl⟩ rfl rfl rfl rfl rfl (by kernel_rfl) Try.func4 (by kernel_rfl)
    (of_decide_eq_true (by kernel_rfl)) (by unfold Func.isWrapper; first | (rw [if_pos (by decide +kernel)]; kernel_rfl) | (rw [if_neg (by decide +kernel)]; exact ⟨rfl, rfl⟩))
    (fun os started H enc _ F => by rw [OpenClaim.pre_eq_preRow]; exact lifted os started H enc F)
end Go.Proofs.Ytkeigfkcoleboaa.WireW.WireOrders
