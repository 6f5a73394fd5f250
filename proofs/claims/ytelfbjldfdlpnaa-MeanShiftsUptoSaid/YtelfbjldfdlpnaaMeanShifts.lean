/- The law MeanShifts: readings that are all later by the same have means that are later by just that: for every list of int32 and every int32, where what comes in is of bulk at most 1048576. Condition: that bulk. -/
import Derived.Test.YtelfbjldfdlpnaaMeanGrow
namespace Go.Proofs.Ytelfbjldfdlpnaa.MeanW.MeanShifts
open Go.ChangeShapes Go.WideShapes Go.ChangeAt Go.RowKit TickW MeanW
theorem short {H : Type} {es sp : List (DataW H)} {d : DataW H} (hk : Rows.uptoSmall H [.slice es sp, d] = true) : es.length ≤ 1048576 := by
  have h : Rows.uptoBulkAll [DataW.slice es sp, d] ≤ 1048576 := of_decide_eq_true hk
  have h2 : ∀ l : List (DataW H), l.length ≤ Rows.uptoBulkAll l := by
    intro l
    induction l with
    | nil => simp [Rows.uptoBulkAll]
    | cons x r ih =>
      have h1 : 1 ≤ Rows.uptoBulk x := by
        cases x with
        | lit l => cases l <;> simp [Rows.uptoBulk]
        | nil => simp [Rows.uptoBulk]
        | ptr d => simp [Rows.uptoBulk]
        | slice elems spare => simp [Rows.uptoBulk]
        | agg parts => simp [Rows.uptoBulk]
        | iface t d => simp [Rows.uptoBulk]
        | map entries => simp [Rows.uptoBulk]
        | held h => simp [Rows.uptoBulk]
      simp only [Rows.uptoBulkAll, List.length_cons]; omega
  have h3 := h2 es
  simp only [Rows.uptoBulkAll, Rows.uptoBulk] at h
  omega
def sh (d : Int) (xs : List Int) : List Int := xs.map fun x => x + d
theorem sh_len (d : Int) (xs : List Int) : (sh d xs).length = xs.length := by unfold sh; rw [List.length_map]
theorem take_snoc {xs : List Int} {k : Nat} {x : Int} (h : xs[k]? = some x) : xs.take (k + 1) = xs.take k ++ [x] := by
  rw [List.take_add_one, h]; rfl
theorem sh_snoc (d : Int) {xs : List Int} {k : Nat} {x : Int} (h : xs[k]? = some x) : sh d (xs.take (k + 1)) = sh d (xs.take k) ++ [x + d] := by
  rw [take_snoc h]; unfold sh; rw [List.map_append]; rfl
set_option maxHeartbeats 4000000 in
set_option maxRecDepth 100000 in
theorem walk (A : Option Addr) (xs : List Int) (c : Nat) (d : Int) (w : World) (hf : IL32 w A xs) (hl : xs.length ≤ 1048576) (hd : -2147483648 ≤ d ∧ d ≤ 2147483647) :
    Calls Try.prog 7 #[.slice A xs.length c, .int .i32 d] w fun e w' => e = .returned (.bool true) ∧ RowKit.Below w.heap.size w w' := by
  obtain ⟨i0, hi, hz0, hz1, hz2⟩ := i64_info
  have HI := Lib.hid hi
  have HZ0 := Lib.hid hz0
  have HZ1 := Lib.hid hz1
  have HZ2 := Lib.hid hz2
  have HF := Lib.hid hf
  have HL := Lib.hid hl
  obtain ⟨d0, d1⟩ := hd
  clear hi hz0 hz1 hz2 hf hl
  go_enter Try.func7, Try.ntmps7
  go_wp2_with fail
  refine (fixed_any _).mono ?_
  rintro e w1 ⟨rfl, b1⟩
  have F1 := Lib.hid (HF.out.below b1)
  have B1 := Lib.hid b1; clear b1
  go_wp2_with fail
  go_loopw [5, 6, 21] (fun r s i wr => ∃ k : Nat, k ≤ xs.length ∧ i = .int .i64 k ∧ Hid (wr.ownsRow w1.heap.size 2 1 r k (i64s (xs.take k))) ∧ Hid (wr.ownsRow w1.heap.size 2 1 s k (i64s (sh d (xs.take k)))) ∧ Hid (Apart r s) ∧ Hid (RowKit.Below w1.heap.size w1 wr)) (fun _ _ i _ => xs.length - (intOf i).toNat)
  case atStart => exact ⟨0, Nat.zero_le _, rfl, Lib.hid (World.ownsRow_nil _ _ _ _), Lib.hid (World.ownsRow_nil _ _ _ _), Lib.hid (fun k h => by cases h), Lib.hid (Below.refl _ _)⟩
  case round =>
    obtain ⟨k, hk, rfl, HA, HB, HD, HW⟩ := hrel
    by_cases hlt : k < xs.length
    · have hl3 := HL.out
      obtain ⟨x, hx⟩ := MeanW.at_ hlt
      obtain ⟨ad, rfl, hc, x0, x1⟩ := (F1.out.below HW.out) k x hx
      have HX := Lib.hid hx
      clear hx
      have ew : IntKind.i64.wrap x = x := IntWalk.i64_in _ (by omega)
      have ed : IntKind.i64.wrap d = d := IntWalk.i64_in _ (by omega)
      have es : IntKind.i64.wrap (x + d) = x + d := IntWalk.i64_in _ (by omega)
      go_wp2_with (at_builtin; refine wpList_append_moved _ rfl _ _ 22 rfl w1.heap.size 2 i0 (.int .i64 0) 1 8 Try.underlying22 HI.out HZ0.out HZ1.out HZ2.out rfl (by decide) _ _ _ rfl (HA.out.alloc _) ⟨wr.heap.size, 0, none⟩ 1 1 [.int .i64 x] rfl rfl ?c1 ?c2 ?c3 ?c4 ?c5 ?_)
      case c1 => exact (cell_one_new _ _ _)
      case c2 => intro u hu; simp at hu; subst hu; rfl
      case c3 => unfold maxLen; omega
      case c4 => omega
      case c5 => rw [World.size_alloc]; exact Nat.le_succ_of_le HW.out.size
      intro va w2 oa ga ma
      have OA := Lib.hid (show w2.ownsRow w1.heap.size 2 1 va (k + 1) (i64s (xs.take (k + 1))) by rw [take_snoc HX.out, i64s_snoc]; exact oa)
      have OB := Lib.hid ((HB.out.alloc (Obj.cells #[.int .i64 x] 2)).kept ga HD.out.kept)
      have AP := Lib.hid (HD.out.moved ma (HB.out.alloc (Obj.cells #[.int .i64 x] 2)))
      have W2 := Lib.hid (show RowKit.Below w1.heap.size w1 w2 from (HW.out.alloc HW.out.size _).grown ga (by rw [World.size_alloc]; exact Nat.le_succ_of_le HW.out.size) (fun p hp => (HA.out.lt p hp).1))
      clear oa ga ma HA HB HD
      go_wp2_with (at_builtin; refine wpList_append_moved _ rfl _ _ 22 rfl w1.heap.size 2 i0 (.int .i64 0) 1 8 Try.underlying22 HI.out HZ0.out HZ1.out HZ2.out rfl (by decide) _ _ _ rfl (OB.out.alloc _) ⟨w2.heap.size, 0, none⟩ 1 1 [.int .i64 (x + d)] rfl rfl ?c1 ?c2 ?c3 ?c4 ?c5 ?_)
      case c1 => exact (cell_one_new _ _ _)
      case c2 => intro u hu; simp at hu; subst hu; rfl
      case c3 => unfold maxLen; omega
      case c4 => omega
      case c5 => rw [World.size_alloc]; exact Nat.le_succ_of_le W2.out.size
      intro vb w3 ob gb mb
      have PB := Lib.hid (show w3.ownsRow w1.heap.size 2 1 vb (k + 1) (i64s (sh d (xs.take (k + 1)))) by rw [sh_snoc d HX.out, i64s_snoc]; exact ob)
      have PA := Lib.hid ((OA.out.alloc (Obj.cells #[.int .i64 (x + d)] 2)).kept gb AP.out.symm.kept)
      have AP2 := Lib.hid (AP.out.symm.moved mb (OA.out.alloc (Obj.cells #[.int .i64 (x + d)] 2))).symm
      have W3 := Lib.hid (show RowKit.Below w1.heap.size w1 w3 from (W2.out.alloc W2.out.size _).grown gb (by rw [World.size_alloc]; exact Nat.le_succ_of_le W2.out.size) (fun p hp => (OB.out.lt p hp).1))
      clear ob gb mb OA OB AP W2
      go_wp2_with fail
      exact ⟨⟨k + 1, by omega, by go_num, PA, PB, AP2, W3⟩, by simp [intOf]; omega⟩
    · obtain rfl : k = xs.length := by omega
      rw [List.take_length] at HA HB
      have hb32 : ∀ x ∈ xs, -2147483648 ≤ x ∧ x ≤ 2147483647 := fun x hx => by
        obtain ⟨j, hj⟩ := List.getElem?_of_mem hx
        obtain ⟨_, _, _, h⟩ := HF.out j x hj
        exact h
      have hls := sh_len d xs
      obtain ⟨MA, ca, rfl, ia, _⟩ := own_il HA.out rfl (fun x hx => by have := hb32 x hx; omega)
      obtain ⟨MB, cb, rfl, ib, _⟩ := own_il HB.out (sh_len d xs) (fun x hx => by
        obtain ⟨y, hy, rfl⟩ := List.mem_map.1 hx
        have := hb32 y hy
        omega)
      have IA := Lib.hid ia
      have IB := Lib.hid ib
      have B2 := Lib.hid (B1.out.trans (HW.out.mono B1.out.size))
      have L1 := Lib.hid (show xs.length * 8 ≤ 140737488355328 by have := HL.out; omega)
      have TA : ∀ W, IL W MA xs → Calls Try.prog 12 #[.slice MA xs.length ca] W fun e w' => e = .returned (ansM xs (tolK xs)) ∧ RowKit.Below W.heap.size W w' := fun W h => tolerant_any MA ca xs W h L1.out
      have MAc : ∀ W, IL W MA xs → Calls Try.prog 13 #[.slice MA xs.length ca] W fun e w' => e = .returned (ansM xs (midK xs)) ∧ RowKit.Below W.heap.size W w' := fun W h => middle_any MA ca xs W h L1.out
      have SA : ∀ W, IL W MA xs → Calls Try.prog 16 #[.slice MA xs.length ca] W fun e w' => e = .returned (.int .u64 (spreadN xs)) ∧ w' = W := fun W h => spread_any MA ca xs W h L1.out
      have TB : ∀ W, IL W MB (sh d xs) → Calls Try.prog 12 #[.slice MB xs.length cb] W fun e w' => e = .returned (ansM (sh d xs) (tolK xs)) ∧ RowKit.Below W.heap.size W w' := fun W h => by
        have := tolerant_any MB cb (sh d xs) W h (by rw [hls]; exact L1.out)
        rwa [hls, show tolK (sh d xs) = tolK xs from shift_tolK xs d] at this
      have MBc : ∀ W, IL W MB (sh d xs) → Calls Try.prog 13 #[.slice MB xs.length cb] W fun e w' => e = .returned (ansM (sh d xs) (midK xs)) ∧ RowKit.Below W.heap.size W w' := fun W h => by
        have := middle_any MB cb (sh d xs) W h (by rw [hls]; exact L1.out)
        rwa [hls, show midK (sh d xs) = midK xs from shift_midK xs d] at this
      have SB : ∀ W, IL W MB (sh d xs) → Calls Try.prog 16 #[.slice MB xs.length cb] W fun e w' => e = .returned (.int .u64 (spreadN xs)) ∧ w' = W := fun W h => by
        have := spread_any MB cb (sh d xs) W h (by rw [hls]; exact L1.out)
        rwa [hls, show spreadN (sh d xs) = spreadN xs from shift_spread xs d] at this
      rcases Nat.eq_zero_or_pos xs.length with hn | hn
      · have hx : xs = [] := List.eq_nil_of_length_eq_zero hn
        have e1 : ansM xs (tolK xs) = .tuple #[.int .i64 0, .int .i64 5] := by rw [hx]; rfl
        have e2 : ansM xs (midK xs) = .tuple #[.int .i64 0, .int .i64 5] := by rw [hx]; rfl
        have e3 : ansM (sh d xs) (tolK xs) = .tuple #[.int .i64 0, .int .i64 5] := by rw [hx]; rfl
        have e4 : ansM (sh d xs) (midK xs) = .tuple #[.int .i64 0, .int .i64 5] := by rw [hx]; rfl
        rw [e1] at TA
        rw [e2] at MAc
        rw [e3] at TB
        rw [e4] at MBc
        rw [hn] at TA TB MAc MBc
        rw [hn]
        clear SA SB e1 e2 e3 e4 ia ib hls hb32 hlt HA HB HD HW hx hn hk
        go_wp2_with fail
        refine (TA _ IA.out).mono ?_
        rintro e w3 ⟨rfl, b3⟩
        have IA3 := Lib.hid (IA.out.below b3)
        have IB3 := Lib.hid (IB.out.below b3)
        have B3 := Lib.hid (B2.out.trans (b3.mono B2.out.size)); clear b3
        go_wp2_with fail
        refine (TB _ IB3.out).mono ?_
        rintro e w4 ⟨rfl, b4⟩
        have IA4 := Lib.hid (IA3.out.below b4)
        have IB4 := Lib.hid (IB3.out.below b4)
        have B4 := Lib.hid (B3.out.trans (b4.mono B3.out.size)); clear b4
        go_wp2_with fail
        refine (MAc _ IA4.out).mono ?_
        rintro e w5 ⟨rfl, b5⟩
        have IA5 := Lib.hid (IA4.out.below b5)
        have IB5 := Lib.hid (IB4.out.below b5)
        have B5 := Lib.hid (B4.out.trans (b5.mono B4.out.size)); clear b5
        go_wp2_with fail
        refine (MBc _ IB5.out).mono ?_
        rintro e w6 ⟨rfl, b6⟩
        have IA6 := Lib.hid (IA5.out.below b6)
        have IB6 := Lib.hid (IB5.out.below b6)
        have B6 := Lib.hid (B5.out.trans (b6.mono B5.out.size)); clear b6
        go_wp2
        go_ret
        exact ⟨rfl, B6.out⟩
      · have hls2 : 0 < (sh d xs).length := by rw [hls]; exact hn
        rw [ansM_some hn] at TA MAc
        rw [ansM_some hls2] at TB MBc
        rw [show halfAt (sh d xs) (tolK xs) = halfAt xs (tolK xs) + d from shift_half xs d _ (tolK_lt hn)] at TB
        rw [show halfAt (sh d xs) (midK xs) = halfAt xs (midK xs) + d from shift_half xs d _ (midK_lt hn)] at MBc
        have hb2 : ∀ k, k < xs.length → -2147483648 ≤ halfAt xs k ∧ halfAt xs k ≤ 2147483647 := fun k hk => by
          have h1 := half_ends hn hk
          have h2 := hb32 _ (srt_mem.1 (getD_mem (l := srt xs) (i := 0) (by rw [srt_len]; exact hn)))
          have h3 := hb32 _ (srt_mem.1 (getD_mem (l := srt xs) (i := xs.length - 1) (by rw [srt_len]; omega)))
          omega
        have c1 := hb2 _ (tolK_lt hn)
        have c2 := hb2 _ (midK_lt hn)
        generalize halfAt xs (tolK xs) = r1 at *
        generalize halfAt xs (midK xs) = r2 at *
        have ed : IntKind.i64.wrap d = d := IntWalk.i64_in _ (by omega)
        have e5 : IntKind.i64.wrap (r1 + d) = r1 + d := IntWalk.i64_in _ (by omega)
        have e6 : IntKind.i64.wrap (r2 + d) = r2 + d := IntWalk.i64_in _ (by omega)
        have n0 : ¬ xs.length = 0 := by omega
        clear ia ib hls hls2 hb32 hb2 c1 c2 hlt HA HB HD HW
        go_wp2_with fail
        refine (TA _ IA.out).mono ?_
        rintro e w3 ⟨rfl, b3⟩
        have IA3 := Lib.hid (IA.out.below b3)
        have IB3 := Lib.hid (IB.out.below b3)
        have B3 := Lib.hid (B2.out.trans (b3.mono B2.out.size)); clear b3
        go_wp2_with fail
        refine (TB _ IB3.out).mono ?_
        rintro e w4 ⟨rfl, b4⟩
        have IA4 := Lib.hid (IA3.out.below b4)
        have IB4 := Lib.hid (IB3.out.below b4)
        have B4 := Lib.hid (B3.out.trans (b4.mono B3.out.size)); clear b4
        go_wp2_with fail
        refine (MAc _ IA4.out).mono ?_
        rintro e w5 ⟨rfl, b5⟩
        have IA5 := Lib.hid (IA4.out.below b5)
        have IB5 := Lib.hid (IB4.out.below b5)
        have B5 := Lib.hid (B4.out.trans (b5.mono B4.out.size)); clear b5
        go_wp2_with fail
        refine (MBc _ IB5.out).mono ?_
        rintro e w6 ⟨rfl, b6⟩
        have IA6 := Lib.hid (IA5.out.below b6)
        have IB6 := Lib.hid (IB5.out.below b6)
        have B6 := Lib.hid (B5.out.trans (b6.mono B5.out.size)); clear b6
        go_wp2_with fail
        refine (SA _ IA6.out).mono ?_
        rintro e w7 ⟨rfl, rfl⟩
        go_wp2_with fail
        refine (SB _ IB6.out).mono ?_
        rintro e w8 ⟨rfl, rfl⟩
        go_wp2
        go_ret
        exact ⟨rfl, B6.out⟩
set_option maxRecDepth 100000 in
/-- What the walk gives, for every argument and every world. -/
theorem contract (H : Type) (enc : TypeId × Value → H) (W : World) (base : Nat) (args : Array Value) (ds gs : List (DataW H)) (before : List MemPlace)
    (hval : ∀ (j : Nat) t v, Try.f7.params[j]? = some t → args[j]? = some v → Value.okWide Try.prog W .any base t v)
    (hW : DataW.Whole enc Try.prog Try.f7.params.toList Rows.meanShiftsSpec.vars false W args.toList ds gs before) (hk : Rows.uptoSmall H (ds ++ gs) = true) : 
    Calls Try.prog 7 args W fun e W' => ∃ v, e = .returned v ∧ Rows.meanShiftsSpec.post enc Try.prog Try.f7 false true false false W args v W' := by
  have hW' := hW
  obtain ⟨p, q, hA0, hV, rfl, hfz, hnd⟩ := hW
  have hA : DataW.TrodAll enc Try.prog W 0 (fun _ => true) true Try.f7.params.toList args.toList ds p := hA0
  rw [Try.params7] at hA hval
  obtain ⟨v0, vs0, d0, ds0, p0, q0, hargs, rfl, rfl, h0, r0⟩ := trodAll_cons hA
  obtain ⟨v1, vs1, d1, ds1, p1, q1, rfl, rfl, rfl, h1, r1⟩ := trodAll_cons r0
  obtain ⟨rfl, rfl, rfl⟩ := trodAll_nil r1
  obtain rfl : args = #[v0, v1] := by cases args; simp_all
  obtain ⟨rfl, rfl⟩ := trodVars_none hV
  simp only [List.append_nil] at hk
  obtain ⟨A0, xs, c0, rfl, f0, l0, lc0, sz0, nl0⟩ := open_int32s Try.underlying42 Try.underlying21 (by kernel_rfl) (hval 0 42 v0 rfl rfl) h0
  have z0 : xs.length ≤ 1048576 := by
    rcases sz0 with h | ⟨es, sp, hd, hl⟩
    · rw [h]; decide
    · rw [hd] at hk; rw [hl]; exact short hk
  obtain ⟨d, rfl, rfl, rfl, w1⟩ := open_int Try.underlying21 (hval 1 21 v1 rfl rfl) h1
  refine (walk A0 xs c0 d W f0 z0 (i32_wf w1)).mono fun e W' ⟨he, hb⟩ => ?_
  exact ⟨_, he, Shell.post_law laidOut (by kernel_rfl) rfl Try.underlying4 rfl hW' rfl hb⟩
theorem reads (os : Os) {H : Type} (enc : TypeId × Value → H) : ∃ places, DataW.whole enc Try.prog ((World.holding Try.prog os ⟨#[], #[], []⟩).forCall (fun _ _ => 0) ⟨#[], #[.slice none 0 0, .int .i32 0], []⟩).memory Try.f7.params.toList Rows.meanShiftsSpec.vars false (#[Value.slice none 0 0, Value.int .i32 0]).toList 8 = some ([.nil, .lit (.int .i32 0)], [], places) :=
  ⟨[], by kernel_rfl⟩
set_option maxRecDepth 100000 in
theorem lifted (os : Os) (started : os.Started) (H : Type) (enc : TypeId × Value → H) (F : Stop.Interp) :
    ReturnsInHanded {} Try.checked os 7 .any ((Rows.OpenSpec.upto Rows.meanShiftsSpec).preRow enc Try.prog Try.f7 Rows.meanShiftsUptoRow.domain false Rows.meanShiftsUptoRow.laid) (((Rows.OpenSpec.upto Rows.meanShiftsSpec).at F).post enc Try.prog Try.f7 false true false false) := by
  obtain ⟨places, hx⟩ := reads os enc
  refine returnsInHanded_of_row (C := Try.checked) (s := Rows.OpenSpec.upto Rows.meanShiftsSpec) own started (by kernel_rfl) Try.func7
    (witness_row_atRef (enc := enc) (C := Try.checked) false (World.holding Try.prog os ⟨#[], #[], []⟩) #[.slice none 0 0, .int .i32 0] rfl (by kernel_rfl) (by kernel_rfl) (by kernel_rfl)
      (OpenSpec.preRow_of_cond 8 hx (by kernel_rfl) (fun k hk => by cases hk; kernel_rfl) (by kernel_rfl) (laid_met os _))) ?_
  intro W base args ds gs before hval hW _ hcond _ hL _ _
  exact contract H enc W base args ds gs before hval hW (hcond _ rfl)
theorem saidUpto : Rows.MeanShiftsUptoSaid :=
  OpenClaim.holds_of_cond 7 Try.f7 rfl rfl rfl rfl rfl rfl rfl ⟨rfl, rfl, rfl, rfl, rfl⟩ rfl rfl rfl rfl rfl (by kernel_rfl) Try.func7 (by kernel_rfl)
    (of_decide_eq_true (by kernel_rfl)) (by unfold Func.isWrapper; first | (rw [if_pos (by decide +kernel)]; kernel_rfl) | (rw [if_neg (by decide +kernel)]; exact ⟨rfl, rfl⟩))
    (fun os started H enc _ F => by rw [OpenClaim.pre_eq_preRow]; exact lifted os started H enc F)
end Go.Proofs.Ytelfbjldfdlpnaa.MeanW.MeanShifts
