/- tocsinlaw01.NumWholes: for every int64 the call returns true and leaves its argument: every whole number that a float64 has just so is its own nearest whole number, a quarter more too where the format has it. No condition but the row's own: the listed package-level variables hold what the text lays (the card ties them). -/
import Derived.Test.YtgcmjmnolkojhaaDoorNumLay
import Derived.Test.YtgcmjmnolkojhaaDoorNumWalk14
import Derived.Test.YtgcmjmnolkojhaaDoorNumWhole
namespace Go.Proofs.YtgcmjmnolkojhaaDoor.NumC.Wholes
open Go.ChangeShapes Go.WideShapes Go.ChangeAt Go.RowKit NumP NumW
theorem i64_bd {n : Int} (h : (Lit.int .i64 n).wf = true) : -9223372036854775808 ≤ n ∧ n ≤ 9223372036854775807 := by
  simp only [Lit.wf, Bool.and_eq_true, decide_eq_true_eq] at h
  exact h
theorem fin_kind (y : Nat) (h : mag y < 9218868437227405312) : kind y ≠ 9 := fun z => by have := (kind9_iff y).1 z; omega
theorem ans_whole (y : Nat) (m : Int) (h1 : -4503599627370496 ≤ m) (h2 : m ≤ 4503599627370496) (hf : mag y < 9218868437227405312) (hm : intN y = m) : intVal (intAns y) = .tuple #[.int .i64 m, .int .i64 0] := by
  rw [ans_ok y (fin_kind y hf) hf (by omega) (by omega), hm]
theorem sum_two (y : Nat) (h1 : FloatKind.f64.format.add 0 y = some y) (h2 : FloatKind.f64.format.add y 0 = some y) (hf : mag y < 9218868437227405312) : sumN [y, 0] = y := by
  have e : sumO [y, 0] = some y := by
    show ((some 0).bind fun s => FloatKind.f64.format.add s y).bind (fun s => FloatKind.f64.format.add s 0) = some y
    simp only [Option.bind_some]
    rw [h1]
    exact h2
  unfold sumN
  rw [e]
  exact one_num y (by omega)
set_option maxHeartbeats 1000000 in
set_option maxRecDepth 100000 in
theorem walk_in (n m : Int) (y r : Nat) (hm : n / 2048 = m) (_hm1 : -4503599627370496 ≤ m) (_hm2 : m ≤ 4503599627370496) (hy : floatOfInt .f64 m = y) (hyb : y < 18446744073709551616) (hrb : r < 18446744073709551616) (hr : FloatKind.f64.format.add y 4598175219545276416 = some r)
    (hay : intVal (intAns y) = .tuple #[.int .i64 m, .int .i64 0]) (q1 : -1125899906842624 ≤ m) (q2 : m ≤ 1125899906842624) (har : intVal (intAns r) = .tuple #[.int .i64 m, .int .i64 0]) (hz : FloatKind.f64.format.add y 0 = some y) (hs : sumN [y, 0] = y) (w : World) (hT : Tz w) (hE : Es w) :
    Calls Tryd.prog 11 #[.int .i64 n] w fun e w' => e = .returned (.bool true) ∧ Below w.heap.size w w' := by
  have cv : ∀ w, (convert 2 22 (.int .i64 m)).run Tryd.prog w = .ok (.float .f64 y) w := fun w => by rw [← hy]; exact run_convert_int_float w _ _ _ _ _ (by kernel_rfl) Tryd.underlying22
  have a1 : ∀ w, (binOp .add 22 (.float .f64 y) (.float .f64 4598175219545276416)).run Tryd.prog w = .ok (.float .f64 r) w := fun w => run_float_arith w _ _ _ _ _ _ hr
  have a2 : ∀ w, (binOp .add 22 (.float .f64 y) (.float .f64 0)).run Tryd.prog w = .ok (.float .f64 y) w := fun w => run_float_arith w _ _ _ _ _ _ hz
  have HAR := Lib.hid har
  have HAY := Lib.hid hay
  have HY := Lib.hid hyb
  have HR := Lib.hid hrb
  have HS := Lib.hid hs
  have HT := Lib.hid hT
  have HE := Lib.hid hE
  clear hT hE hy hr hz hs hay hyb hrb har
  go_enter Tryd.func11, Tryd.ntmps11
  go_wp2_with fail
  refine (fixed_any _ HT.out HE.out).mono ?_
  rintro e w1 ⟨rfl, hb1⟩
  go_wp2_with fail
  refine (int_any _ HY.out _).mono ?_
  rintro e w2 ⟨rfl, rfl⟩
  rw [HAY.out]
  go_wp2_with fail
  refine (int_any _ HR.out _).mono ?_
  rintro e w2 ⟨rfl, rfl⟩
  rw [HAR.out]
  go_wp2_with fail
  refine (refKind_any _ HY.out _).mono ?_
  rintro e w2 ⟨rfl, rfl⟩
  go_wp2_with fail
  refine (kind_any _ HY.out _).mono ?_
  rintro e w2 ⟨rfl, rfl⟩
  go_wp2_with fail
  refine (sum_any (some ⟨w1.heap.size, 0, none⟩) 2 [y, 0] _ (fl_new _ _ (by intro x hx; simp at hx; rcases hx with rfl | rfl; exact HY.out; decide) w1.heap.size 22 (heap_alloc_new w1 _)) (by show 2 ≤ maxLen; decide)).mono ?_
  rintro e w2 ⟨rfl, k, rfl⟩
  rw [HS.out]
  go_wp2
  go_ret
  exact ⟨rfl, below_drewN (hb1.alloc hb1.size _) k⟩
set_option maxHeartbeats 1000000 in
set_option maxRecDepth 100000 in
theorem walk_up (n m : Int) (y r : Nat) (hm : n / 2048 = m) (_hm1 : -4503599627370496 ≤ m) (_hm2 : m ≤ 4503599627370496) (hy : floatOfInt .f64 m = y) (hyb : y < 18446744073709551616) (hrb : r < 18446744073709551616) (hr : FloatKind.f64.format.add y 4598175219545276416 = some r)
    (hay : intVal (intAns y) = .tuple #[.int .i64 m, .int .i64 0]) (q1 : 1125899906842624 < m) (hz : FloatKind.f64.format.add y 0 = some y) (hs : sumN [y, 0] = y) (w : World) (hT : Tz w) (hE : Es w) :
    Calls Tryd.prog 11 #[.int .i64 n] w fun e w' => e = .returned (.bool true) ∧ Below w.heap.size w w' := by
  have cv : ∀ w, (convert 2 22 (.int .i64 m)).run Tryd.prog w = .ok (.float .f64 y) w := fun w => by rw [← hy]; exact run_convert_int_float w _ _ _ _ _ (by kernel_rfl) Tryd.underlying22
  have a1 : ∀ w, (binOp .add 22 (.float .f64 y) (.float .f64 4598175219545276416)).run Tryd.prog w = .ok (.float .f64 r) w := fun w => run_float_arith w _ _ _ _ _ _ hr
  have a2 : ∀ w, (binOp .add 22 (.float .f64 y) (.float .f64 0)).run Tryd.prog w = .ok (.float .f64 y) w := fun w => run_float_arith w _ _ _ _ _ _ hz
  have HAY := Lib.hid hay
  have HY := Lib.hid hyb
  have HR := Lib.hid hrb
  have HS := Lib.hid hs
  have HT := Lib.hid hT
  have HE := Lib.hid hE
  clear hT hE hy hr hz hs hay hyb hrb 
  go_enter Tryd.func11, Tryd.ntmps11
  go_wp2_with fail
  refine (fixed_any _ HT.out HE.out).mono ?_
  rintro e w1 ⟨rfl, hb1⟩
  go_wp2_with fail
  refine (int_any _ HY.out _).mono ?_
  rintro e w2 ⟨rfl, rfl⟩
  rw [HAY.out]
  go_wp2_with fail
  refine (int_any _ HR.out _).mono ?_
  rintro e w2 ⟨rfl, rfl⟩
  unfold intVal
  go_wp2_with fail
  refine (refKind_any _ HY.out _).mono ?_
  rintro e w2 ⟨rfl, rfl⟩
  go_wp2_with fail
  refine (kind_any _ HY.out _).mono ?_
  rintro e w2 ⟨rfl, rfl⟩
  go_wp2_with fail
  refine (sum_any (some ⟨w1.heap.size, 0, none⟩) 2 [y, 0] _ (fl_new _ _ (by intro x hx; simp at hx; rcases hx with rfl | rfl; exact HY.out; decide) w1.heap.size 22 (heap_alloc_new w1 _)) (by show 2 ≤ maxLen; decide)).mono ?_
  rintro e w2 ⟨rfl, k, rfl⟩
  rw [HS.out]
  go_wp2
  go_ret
  exact ⟨rfl, below_drewN (hb1.alloc hb1.size _) k⟩
set_option maxHeartbeats 1000000 in
set_option maxRecDepth 100000 in
theorem walk_down (n m : Int) (y r : Nat) (hm : n / 2048 = m) (_hm1 : -4503599627370496 ≤ m) (_hm2 : m ≤ 4503599627370496) (hy : floatOfInt .f64 m = y) (hyb : y < 18446744073709551616) (hrb : r < 18446744073709551616) (hr : FloatKind.f64.format.add y 4598175219545276416 = some r)
    (hay : intVal (intAns y) = .tuple #[.int .i64 m, .int .i64 0]) (q1 : m < -1125899906842624) (hz : FloatKind.f64.format.add y 0 = some y) (hs : sumN [y, 0] = y) (w : World) (hT : Tz w) (hE : Es w) :
    Calls Tryd.prog 11 #[.int .i64 n] w fun e w' => e = .returned (.bool true) ∧ Below w.heap.size w w' := by
  have cv : ∀ w, (convert 2 22 (.int .i64 m)).run Tryd.prog w = .ok (.float .f64 y) w := fun w => by rw [← hy]; exact run_convert_int_float w _ _ _ _ _ (by kernel_rfl) Tryd.underlying22
  have a1 : ∀ w, (binOp .add 22 (.float .f64 y) (.float .f64 4598175219545276416)).run Tryd.prog w = .ok (.float .f64 r) w := fun w => run_float_arith w _ _ _ _ _ _ hr
  have a2 : ∀ w, (binOp .add 22 (.float .f64 y) (.float .f64 0)).run Tryd.prog w = .ok (.float .f64 y) w := fun w => run_float_arith w _ _ _ _ _ _ hz
  have HAY := Lib.hid hay
  have HY := Lib.hid hyb
  have HR := Lib.hid hrb
  have HS := Lib.hid hs
  have HT := Lib.hid hT
  have HE := Lib.hid hE
  clear hT hE hy hr hz hs hay hyb hrb 
  go_enter Tryd.func11, Tryd.ntmps11
  go_wp2_with fail
  refine (fixed_any _ HT.out HE.out).mono ?_
  rintro e w1 ⟨rfl, hb1⟩
  go_wp2_with fail
  refine (int_any _ HY.out _).mono ?_
  rintro e w2 ⟨rfl, rfl⟩
  rw [HAY.out]
  go_wp2_with fail
  refine (int_any _ HR.out _).mono ?_
  rintro e w2 ⟨rfl, rfl⟩
  unfold intVal
  go_wp2_with fail
  refine (refKind_any _ HY.out _).mono ?_
  rintro e w2 ⟨rfl, rfl⟩
  go_wp2_with fail
  refine (kind_any _ HY.out _).mono ?_
  rintro e w2 ⟨rfl, rfl⟩
  go_wp2_with fail
  refine (sum_any (some ⟨w1.heap.size, 0, none⟩) 2 [y, 0] _ (fl_new _ _ (by intro x hx; simp at hx; rcases hx with rfl | rfl; exact HY.out; decide) w1.heap.size 22 (heap_alloc_new w1 _)) (by show 2 ≤ maxLen; decide)).mono ?_
  rintro e w2 ⟨rfl, k, rfl⟩
  rw [HS.out]
  go_wp2
  go_ret
  exact ⟨rfl, below_drewN (hb1.alloc hb1.size _) k⟩
theorem walk (n : Int) (hn1 : -9223372036854775808 ≤ n) (hn2 : n ≤ 9223372036854775807) (w : World) (hT : Tz w) (hE : Es w) :
    Calls Tryd.prog 11 #[.int .i64 n] w fun e w' => e = .returned (.bool true) ∧ Below w.heap.size w w' := by
  have hm1 : -4503599627370496 ≤ n / 2048 := by omega
  have hm2 : n / 2048 ≤ 4503599627370496 := by omega
  generalize hm : n / 2048 = m at *
  obtain ⟨w1, w2, w3, _, w5⟩ := whole_parts m (by omega) 1074 rfl
  obtain ⟨z1, z2⟩ := add_zero _ w2 w1 w3
  have hay := ans_whole _ m hm1 hm2 w1 w5
  have hs := sum_two _ z2 z1 w1
  by_cases q1 : 1125899906842624 < m
  · obtain ⟨r, hr, hrb⟩ := quarter_some m (by omega)
    exact walk_up n m _ r hm hm1 hm2 rfl w2 hrb hr hay q1 z1 hs w hT hE
  by_cases q2 : m < -1125899906842624
  · obtain ⟨r, hr, hrb⟩ := quarter_some m (by omega)
    exact walk_down n m _ r hm hm1 hm2 rfl w2 hrb hr hay q2 z1 hs w hT hE
  obtain ⟨r, hr, hrb, hrf, hri⟩ := quarter_parts m (by omega) (by omega)
  exact walk_in n m _ r hm hm1 hm2 rfl w2 hrb hr hay (by omega) (by omega) (ans_whole r m hm1 hm2 hrf hri) z1 hs w hT hE
set_option maxRecDepth 100000 in
/-- What the walk gives, for every argument and every world. -/
theorem contract (H : Type) (enc : TypeId × Value → H) (W : World) (base : Nat) (args : Array Value) (ds gs : List (DataW H)) (before : List MemPlace)
    (hval : ∀ (j : Nat) t v, Tryd.f11.params[j]? = some t → args[j]? = some v → Value.okWide Tryd.prog W .any base t v)
    (hW : DataW.Whole enc Tryd.prog Tryd.f11.params.toList Rows.numWholesSpec.vars false W args.toList ds gs before) (hL : laidMetH Tryd.prog Rows.numWholesRow.laid W) : 
    Calls Tryd.prog 11 args W fun e W' => ∃ v, e = .returned v ∧ Rows.numWholesSpec.post enc Tryd.prog Tryd.f11 false true false false W args v W' := by
  have hW' := hW
  obtain ⟨p, q, hA0, hV, rfl, hfz, hnd⟩ := hW
  have hA : DataW.TrodAll enc Tryd.prog W 0 (fun _ => true) true Tryd.f11.params.toList args.toList ds p := hA0
  rw [Tryd.params11] at hA hval
  obtain ⟨v0, vs0, d0, ds0, p0, q0, hargs, rfl, rfl, h0, r0⟩ := trodAll_cons hA
  obtain ⟨rfl, rfl, rfl⟩ := trodAll_nil r0
  obtain rfl : args = #[v0] := by cases args; simp_all
  obtain ⟨rfl, rfl⟩ := trodVars_none hV
  obtain ⟨n, rfl, rfl, rfl, w0⟩ := open_int Tryd.underlying2 (hval 0 2 v0 rfl rfl) h0
  refine (walk n (i64_bd w0).1 (i64_bd w0).2 W (tz_of hL) (es_of hL)).mono fun e W' ⟨he, hb⟩ => ?_
  exact ⟨_, he, Shell.post_law laidOut (by kernel_rfl) rfl Tryd.underlying4 rfl hW' rfl hb⟩
theorem reads (os : Os) {H : Type} (enc : TypeId × Value → H) : ∃ places, DataW.whole enc Tryd.prog ((laidWorld os).forCall (fun _ _ => 0) ⟨#[], #[.int .i64 0], []⟩).memory Tryd.f11.params.toList Rows.numWholesSpec.vars false (#[Value.int .i64 0]).toList 8 = some ([.lit (.int .i64 0)], [], places) :=
  ⟨[], by kernel_rfl⟩
set_option maxRecDepth 100000 in
theorem lifted (os : Os) (started : os.Started) (H : Type) (enc : TypeId × Value → H) (F : Stop.Interp) :
    ReturnsInHanded {} Tryd.checked os 11 .any ((OpenSpec.ofChange Rows.numWholesSpec).preRow enc Tryd.prog Tryd.f11 Rows.numWholesRow.domain false Rows.numWholesRow.laid) (((OpenSpec.ofChange Rows.numWholesSpec).at F).post enc Tryd.prog Tryd.f11 false true false false) := by
  obtain ⟨places, hx⟩ := reads os enc
  refine returnsInHanded_of_row (C := Tryd.checked) (s := OpenSpec.ofChange Rows.numWholesSpec) own started (by kernel_rfl) Tryd.func11
    (witness_row_atRef (enc := enc) (C := Tryd.checked) false (laidWorld os) #[.int .i64 0] rfl (by kernel_rfl) (by kernel_rfl) (by kernel_rfl)
      (OpenSpec.preRow_of_cond 8 hx (by kernel_rfl) (fun k hk => by cases hk) (by kernel_rfl) (laid_met os _))) ?_
  intro W base args ds gs before hval hW _ _ _ hL _ _
  exact contract H enc W base args ds gs before hval hW hL
theorem said : Rows.NumWholesSaid :=
  OpenClaim.holds_of_cond 11 Tryd.f11 rfl rfl rfl rfl rfl rfl rfl ⟨rfl, rfl, rfl, rfl, rfl⟩ rfl rfl rfl rfl rfl (by kernel_rfl) Tryd.func11 (by kernel_rfl)
    (of_decide_eq_true (by kernel_rfl)) (by unfold Func.isWrapper; first | (rw [if_pos (by decide +kernel)]; kernel_rfl) | (rw [if_neg (by decide +kernel)]; exact ⟨rfl, rfl⟩))
    (fun os started H enc _ F => by rw [OpenClaim.pre_eq_preRow]; exact lifted os started H enc F)
theorem plain (f : FuncId) (fn : Func) (hf : Tryd.pinned.checked.prog.funcNamed "tocsin/tocsinlaw01.NumWholes" = some f) (hfn : Tryd.pinned.checked.prog.funcs[f]? = some fn) :
    true = Tryd.pinned.checked.prog.looks [] ∧ ∀ (j : Nat) t, fn.params[j]? = some t → Tryd.pinned.checked.prog.wantsStandIn t = false := by
  obtain rfl : f = 11 := Option.some.inj ((show Tryd.prog.funcNamed "tocsin/tocsinlaw01.NumWholes" = some 11 by kernel_rfl).symm.trans hf) |>.symm
  obtain rfl : fn = Tryd.f11 := (Option.some.inj (Tryd.func11.symm.trans hfn)).symm
  refine ⟨by kernel_rfl, fun j t ht => ?_⟩
  rw [Tryd.params11] at ht
  have hall : ∀ t ∈ Tryd.f11.params.toList, Tryd.prog.wantsStandIn t = false := by
    rw [Tryd.params11]
    have h : ((#[2] : Array TypeId).toList.all fun t => !Tryd.prog.wantsStandIn t) = true := by kernel_rfl
    intro t ht
    simpa using (List.all_eq_true.1 h) t ht
  exact hall t (by rw [Tryd.params11]; exact Array.mem_toList_iff.2 (Array.mem_of_getElem? ht))
theorem card : Rows.NumWholesCardSaid :=
  Claim7.holds_tied_plain_at .later [] _ _ _ _ said (fun _ h => by cases h) (by kernel_rfl) (fun _ h => by cases h) numWholes_row_tie rfl ⟨rfl, rfl⟩ (by kernel_rfl) rfl plain (by kernel_rfl)
end Go.Proofs.YtgcmjmnolkojhaaDoor.NumC.Wholes
