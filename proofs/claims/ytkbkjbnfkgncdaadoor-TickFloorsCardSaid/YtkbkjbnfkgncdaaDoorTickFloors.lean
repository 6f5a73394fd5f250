/- tocsinlaw02.TickFloors: for every input the call returns true and leaves its arguments: a product divided is the greatest whole number not above it. No condition but the row's own: the listed package-level variables hold what the text lays (the card ties them). -/
import Derived.Test.YtkbkjbnfkgncdaaDoorTickLay
namespace Go.Proofs.YtkbkjbnfkgncdaaDoor.TickW.TickFloors
open Go.ChangeShapes Go.WideShapes Go.ChangeAt Go.RowKit
open Go.ChangeMaps (open_string)
theorem i32_of {n : Int} (h : (Lit.int .i32 n).wf = true) : -2147483648 ≤ n ∧ n ≤ 2147483647 := by
  simp [Lit.wf] at h
  exact h
theorem mul_small (a b : Int) (ha : -2147483648 ≤ a ∧ a ≤ 2147483647) (hb : -2147483648 ≤ b ∧ b ≤ 2147483647) : -4611686018427387904 ≤ a * b ∧ a * b ≤ 4611686018427387904 := by
  have hn : (a * b).natAbs ≤ 2147483648 * 2147483648 := by
    rw [Int.natAbs_mul]
    exact Nat.mul_le_mul (by omega) (by omega)
  generalize a * b = z at *
  omega
theorem wrap_id (z : Int) (h0 : -9223372036854775808 ≤ z) (h1 : z ≤ 9223372036854775807) : wrap64 z = z := by unfold wrap64; omega
theorem floors_pure (a b c : Int) (ha : -2147483648 ≤ a ∧ a ≤ 2147483647) (hb : -2147483648 ≤ b ∧ b ≤ 2147483647) (hc : 0 < c ∧ c ≤ 2147483647) :
    ∃ q r : Int, (∀ W : World, Calls Tryd.prog 19 #[.int .i64 a, .int .i64 b, .int .i64 c] W fun e w' => e = .returned (.tuple #[.int .i64 q, .int .i64 0]) ∧ Below W.heap.size W w') ∧
      wrap64 (a * b) = a * b ∧ wrap64 (q * c) = a * b - r ∧ wrap64 (a * b - (a * b - r)) = r ∧ 0 ≤ r ∧ r < c := by
  have hm := mul_small a b ha hb
  have hd : (a * b / c).natAbs ≤ (a * b).natAbs := Int.natAbs_ediv_le_natAbs _ _
  have ed : a * b / c * c = a * b - a * b % c := by
    have := Int.mul_ediv_add_emod (a * b) c
    rw [Int.mul_comm (a * b / c)]
    omega
  have r0 := Int.emod_nonneg (a * b) (show c ≠ 0 by omega)
  have r1 := Int.emod_lt_of_pos (a * b) hc.1
  have q0 : -9223372036854775808 ≤ a * b / c ∧ a * b / c ≤ 9223372036854775807 := by
    clear ed r0 r1
    generalize a * b / c = q at *
    generalize a * b = z at *
    omega
  refine ⟨a * b / c, a * b % c, fun W => ?_, ?_, ?_, ?_, r0, r1⟩
  · have := muldiv_any a b c (by omega) (by omega) (by omega) (by omega) hc.1 (by omega) W
    rw [ansV_in _ q0.1 q0.2] at this
    exact this
  · exact wrap_id _ (by omega) (by omega)
  · rw [ed]
    generalize a * b % c = r at *
    generalize a * b = z at *
    exact wrap_id _ (by omega) (by omega)
  · rw [show a * b - (a * b - a * b % c) = a * b % c by omega]
    exact wrap_id _ (by omega) (by omega)
set_option maxHeartbeats 1000000 in
theorem walk (a b c : Int) (wa : (Lit.int .i32 a).wf = true) (wb : (Lit.int .i32 b).wf = true) (wc : (Lit.int .i32 c).wf = true) (w : World) (hL : Laid w) :
    Calls Tryd.prog 9 #[.int .i32 a, .int .i32 b, .int .i32 c] w fun e w' => e = .returned (.bool true) ∧ Below w.heap.size w w' := by
  have HL := Lib.hid hL
  clear hL
  obtain ⟨a0, a1⟩ := i32_of wa
  obtain ⟨b0, b1⟩ := i32_of wb
  obtain ⟨c0, c1⟩ := i32_of wc
  clear wa wb wc
  have wa := wrap_id a (by omega) (by omega)
  have wb := wrap_id b (by omega) (by omega)
  have wc := wrap_id c (by omega) (by omega)
  by_cases hc : c ≤ 0
  · go_enter Tryd.func9, Tryd.ntmps9
    go_wp2_with fail
    refine (fixed_any _ HL.out).mono ?_
    rintro e w1 ⟨rfl, b1⟩
    go_wp2_with fail
    refine (muldiv_arg _ _ _ hc _).mono ?_
    rintro e w2 ⟨rfl, b2⟩
    go_wp2
    go_ret
    exact ⟨rfl, b1.trans (b2.mono b1.size)⟩
  · obtain ⟨q, r, MD, e0, e1, e2, k1, k2⟩ := floors_pure a b c ⟨a0, a1⟩ ⟨b0, b1⟩ ⟨by omega, c1⟩
    clear a0 a1 b0 b1 c0 c1
    go_enter Tryd.func9, Tryd.ntmps9
    go_wp2_with fail
    refine (fixed_any _ HL.out).mono ?_
    rintro e w1 ⟨rfl, b1⟩
    go_wp2_with fail
    refine (MD _).mono ?_
    rintro e w2 ⟨rfl, b2⟩
    have B2 := Lib.hid (b1.trans (b2.mono b1.size))
    clear b1 b2 MD
    go_wp2
    go_ret
    exact ⟨rfl, B2.out⟩
set_option maxRecDepth 100000 in
/-- What the walk gives, for every argument and every world. -/
theorem contract (H : Type) (enc : TypeId × Value → H) (W : World) (base : Nat) (args : Array Value) (ds gs : List (DataW H)) (before : List MemPlace)
    (hval : ∀ (j : Nat) t v, Tryd.f9.params[j]? = some t → args[j]? = some v → Value.okWide Tryd.prog W .any base t v)
    (hW : DataW.Whole enc Tryd.prog Tryd.f9.params.toList Rows.tickFloorsSpec.vars false W args.toList ds gs before) (hL : laidMetH Tryd.prog Rows.tickFloorsRow.laid W) : 
    Calls Tryd.prog 9 args W fun e W' => ∃ v, e = .returned v ∧ Rows.tickFloorsSpec.post enc Tryd.prog Tryd.f9 false true false false W args v W' := by
  have hW' := hW
  obtain ⟨p, q, hA0, hV, rfl, hfz, hnd⟩ := hW
  have hA : DataW.TrodAll enc Tryd.prog W 0 (fun _ => true) true Tryd.f9.params.toList args.toList ds p := hA0
  rw [Tryd.params9] at hA hval
  obtain ⟨v0, vs0, d0, ds0, p0, q0, hargs, rfl, rfl, h0, r0⟩ := trodAll_cons hA
  obtain ⟨v1, vs1, d1, ds1, p1, q1, rfl, rfl, rfl, h1, r1⟩ := trodAll_cons r0
  obtain ⟨v2, vs2, d2, ds2, p2, q2, rfl, rfl, rfl, h2, r2⟩ := trodAll_cons r1
  obtain ⟨rfl, rfl, rfl⟩ := trodAll_nil r2
  obtain rfl : args = #[v0, v1, v2] := by cases args; simp_all
  obtain ⟨rfl, rfl⟩ := trodVars_none hV
  obtain ⟨a, rfl, rfl, rfl, w0⟩ := open_int Tryd.underlying21 (hval 0 21 v0 rfl rfl) h0
  obtain ⟨b, rfl, rfl, rfl, w1⟩ := open_int Tryd.underlying21 (hval 1 21 v1 rfl rfl) h1
  obtain ⟨c, rfl, rfl, rfl, w2⟩ := open_int Tryd.underlying21 (hval 2 21 v2 rfl rfl) h2
  refine (walk a b c w0 w1 w2 W (laid_of hL)).mono fun e W' ⟨he, hb⟩ => ?_
  exact ⟨_, he, Shell.post_law laidOut (by kernel_rfl) rfl Tryd.underlying4 rfl hW' rfl hb⟩
theorem reads (os : Os) {H : Type} (enc : TypeId × Value → H) : ∃ places, DataW.whole enc Tryd.prog ((laidWorld os).forCall (fun _ _ => 0) ⟨#[], #[.int .i32 0, .int .i32 0, .int .i32 0], []⟩).memory Tryd.f9.params.toList Rows.tickFloorsSpec.vars false (#[Value.int .i32 0, Value.int .i32 0, Value.int .i32 0]).toList 8 = some ([.lit (.int .i32 0), .lit (.int .i32 0), .lit (.int .i32 0)], [], places) :=
  ⟨[], by kernel_rfl⟩
set_option maxRecDepth 100000 in
theorem lifted (os : Os) (started : os.Started) (H : Type) (enc : TypeId × Value → H) (F : Stop.Interp) :
    ReturnsInHanded {} Tryd.checked os 9 .any ((OpenSpec.ofChange Rows.tickFloorsSpec).preRow enc Tryd.prog Tryd.f9 Rows.tickFloorsRow.domain false Rows.tickFloorsRow.laid) (((OpenSpec.ofChange Rows.tickFloorsSpec).at F).post enc Tryd.prog Tryd.f9 false true false false) := by
  obtain ⟨places, hx⟩ := reads os enc
  refine returnsInHanded_of_row (C := Tryd.checked) (s := OpenSpec.ofChange Rows.tickFloorsSpec) own started (by kernel_rfl) Tryd.func9
    (witness_row_atRef (enc := enc) (C := Tryd.checked) false (laidWorld os) #[.int .i32 0, .int .i32 0, .int .i32 0] rfl (by kernel_rfl) (by kernel_rfl) (by kernel_rfl)
      (OpenSpec.preRow_of_cond 8 hx (by kernel_rfl) (fun k hk => by cases hk) (by kernel_rfl) (laid_met os _))) ?_
  intro W base args ds gs before hval hW _ _ _ hL _ _
  exact contract H enc W base args ds gs before hval hW hL
theorem said : Rows.TickFloorsSaid :=
  OpenClaim.holds_of_cond 9 Tryd.f9 rfl rfl rfl rfl rfl rfl rfl ⟨rfl, rfl, rfl, rfl, rfl⟩ rfl rfl rfl rfl rfl (by kernel_rfl) Tryd.func9 (by kernel_rfl)
    (of_decide_eq_true (by kernel_rfl)) (by unfold Func.isWrapper; first | (rw [if_pos (by decide +kernel)]; kernel_rfl) | (rw [if_neg (by decide +kernel)]; exact ⟨rfl, rfl⟩))
    (fun os started H enc _ F => by rw [OpenClaim.pre_eq_preRow]; exact lifted os started H enc F)
theorem plain (f : FuncId) (fn : Func) (hf : Tryd.pinned.checked.prog.funcNamed "tocsin/tocsinlaw02.TickFloors" = some f) (hfn : Tryd.pinned.checked.prog.funcs[f]? = some fn) :
    true = Tryd.pinned.checked.prog.looks [] ∧ ∀ (j : Nat) t, fn.params[j]? = some t → Tryd.pinned.checked.prog.wantsStandIn t = false := by
  obtain rfl : f = 9 := Option.some.inj ((show Tryd.prog.funcNamed "tocsin/tocsinlaw02.TickFloors" = some 9 by kernel_rfl).symm.trans hf) |>.symm
  obtain rfl : fn = Tryd.f9 := (Option.some.inj (Tryd.func9.symm.trans hfn)).symm
  refine ⟨by kernel_rfl, fun j t ht => ?_⟩
  rw [Tryd.params9] at ht
  have hall : ∀ t ∈ Tryd.f9.params.toList, Tryd.prog.wantsStandIn t = false := by
    rw [Tryd.params9]
    have h : ((#[21, 21, 21] : Array TypeId).toList.all fun t => !Tryd.prog.wantsStandIn t) = true := by kernel_rfl
    intro t ht
    simpa using (List.all_eq_true.1 h) t ht
  exact hall t (by rw [Tryd.params9]; exact Array.mem_toList_iff.2 (Array.mem_of_getElem? ht))
theorem card : Rows.TickFloorsCardSaid :=
  Claim7.holds_tied_plain_at .later [] _ _ _ _ said (fun _ h => by cases h) (by kernel_rfl) (fun _ h => by cases h) tickFloors_row_tie rfl ⟨rfl, rfl⟩ (by kernel_rfl) rfl plain (by kernel_rfl)
end Go.Proofs.YtkbkjbnfkgncdaaDoor.TickW.TickFloors
