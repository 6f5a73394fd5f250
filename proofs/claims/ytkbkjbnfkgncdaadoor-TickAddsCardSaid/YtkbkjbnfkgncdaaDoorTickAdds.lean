/- tocsinlaw02.TickAdds: for every input the call returns true and leaves its arguments: sums, differences and products are the document's own. No condition but the row's own: the listed package-level variables hold what the text lays (the card ties them). -/
import Derived.Test.YtkbkjbnfkgncdaaDoorTickLay
import Derived.Test.YtkbkjbnfkgncdaaDoorTickRMul2
import Derived.Deep.RegionHeld3
namespace Go.Proofs.YtkbkjbnfkgncdaaDoor.TickW.TickAdds
open Go.ChangeShapes Go.WideShapes Go.ChangeAt Go.RowKit
theorem i64_of {n : Int} (h : (Lit.int .i64 n).wf = true) : -9223372036854775808 ≤ n ∧ n ≤ 9223372036854775807 := by
  simp [Lit.wf] at h
  exact h
set_option maxHeartbeats 4000000 in
set_option maxRecDepth 100000 in
theorem walk (a b : Int) (wa : (Lit.int .i64 a).wf = true) (wb : (Lit.int .i64 b).wf = true) (w : World) (hL : Laid w) :
    Calls Tryd.prog 3 #[.int .i64 a, .int .i64 b] w fun e w' => e = .returned (.bool true) ∧ Below w.heap.size w w' := by
  have HL := Lib.hid hL
  clear hL
  obtain ⟨a0, a1⟩ := i64_of wa
  obtain ⟨b0, b1⟩ := i64_of wb
  have HAB := Lib.hid (And.intro a0 (And.intro a1 (And.intro b0 b1)))
  have DA := Lib.hid (dn_small a0 a1)
  have DB := Lib.hid (dn_small b0 b1)
  obtain ⟨n1, m1, hk1⟩ := ansV_tuple (a + b)
  obtain ⟨n2, m2, hk2⟩ := ansV_tuple (a - b)
  obtain ⟨n3, m3, hk3⟩ := ansV_tuple (a * b)
  have K1 := Lib.hid hk1
  have K2 := Lib.hid hk2
  have K3 := Lib.hid hk3
  clear wa wb a0 a1 b0 b1 hk1 hk2 hk3
  go_enter Tryd.func3, Tryd.ntmps3
  go_wp2_with fail
  refine (fixed_any _ HL.out).mono ?_
  rintro e w1 ⟨rfl, b1⟩
  have B1 := Lib.hid b1
  clear b1
  go_wp2_with fail
  obtain ⟨a0, a1, b0, b1'⟩ := HAB.out
  refine (add_any a b a0 a1 b0 b1' _).mono ?_
  rintro e w2 ⟨rfl, b2⟩
  have B2 := Lib.hid (B1.out.trans (b2.mono B1.out.size))
  clear b2 a0 a1 b0 b1'
  rw [K1.out]
  go_wp2_with fail
  obtain ⟨a0, a1, b0, b1'⟩ := HAB.out
  refine (sub_any a b a0 a1 b0 b1' _).mono ?_
  rintro e w3 ⟨rfl, b3⟩
  have B3 := Lib.hid (B2.out.trans (b3.mono B2.out.size))
  clear b3 a0 a1 b0 b1'
  rw [K2.out]
  go_wp2_with fail
  obtain ⟨a0, a1, b0, b1'⟩ := HAB.out
  refine (mul_any a b a0 a1 b0 b1' _).mono ?_
  rintro e w4 ⟨rfl, b4⟩
  have B4 := Lib.hid (B3.out.trans (b4.mono B3.out.size))
  clear b4 a0 a1 b0 b1'
  rw [K3.out]
  go_wp2_with fail
  obtain ⟨a0, a1, b0, b1'⟩ := HAB.out
  refine (of_agg a a0 a1 _).mono ?_
  rintro e w5 ⟨⟨A1, c1, rfl, hd1⟩, b5⟩
  have B5 := Lib.hid (B4.out.trans (b5.mono B4.out.size))
  have HD1 := Lib.hid hd1
  clear b5 a0 a1 b0 b1' hd1
  go_wp2_with fail
  obtain ⟨a0, a1, b0, b1'⟩ := HAB.out
  refine (of_agg b b0 b1' _).mono ?_
  rintro e w6 ⟨⟨A2, c2, rfl, hd2⟩, b6⟩
  have B6 := Lib.hid (B5.out.trans (b6.mono B5.out.size))
  have HD3 := Lib.hid (HD1.out.below b6)
  have HD2 := Lib.hid hd2
  clear b6 a0 a1 b0 b1' hd2
  go_wp2_with fail
  have hb7 := al (al (Below.refl w6.heap.size w6) (Obj.cells #[.slice A1 (dn a) c1, .bool (sg a)] 28)) (Obj.cells #[.slice A2 (dn b) c2, .bool (sg b)] 28)
  have h1 := heap_alloc2_old w6 (Obj.cells #[.slice A1 (dn a) c1, .bool (sg a)] 28) (Obj.cells #[.slice A2 (dn b) c2, .bool (sg b)] 28)
  have h2 := heap_alloc2_new w6 (Obj.cells #[.slice A1 (dn a) c1, .bool (sg a)] 28) (Obj.cells #[.slice A2 (dn b) c2, .bool (sg b)] 28)
  generalize (w6.alloc (Obj.cells #[.slice A1 (dn a) c1, .bool (sg a)] 28)).alloc (Obj.cells #[.slice A2 (dn b) c2, .bool (sg b)] 28) = w7 at *
  have B7 := Lib.hid (B6.out.trans (hb7.mono B6.out.size))
  have E1 := Lib.hid (HD3.out.below hb7)
  have E2 := Lib.hid (HD2.out.below hb7)
  have P1 := Lib.hid h1
  have P2 := Lib.hid h2
  clear hb7 h1 h2 HD1 HD2 HD3
  refine (refAdd_agg a b A1 A2 c1 c2 w7 E1.out E2.out (by have := DA.out; omega) (by have := DB.out; omega)).mono ?_
  rintro e w70 ⟨⟨A3, c3, rfl, hd⟩, bb⟩
  have F1 := Lib.hid (E1.out.below bb)
  have F2 := Lib.hid (E2.out.below bb)
  have Q1 := Lib.hid (row_below bb P1.out)
  have Q2 := Lib.hid (row_below bb P2.out)
  have C7 := Lib.hid (B7.out.trans (bb.mono B7.out.size))
  have HD := Lib.hid hd
  clear bb hd E1 E2 P1 P2
  go_wp2_with fail
  refine (refInt_agg (a + b) A3 c3 w70 HD.out).mono ?_
  rintro e w8 ⟨rfl, bb⟩
  rw [K1.out]
  have E1 := Lib.hid (F1.out.below bb)
  have E2 := Lib.hid (F2.out.below bb)
  have R1 := Lib.hid (row_below bb Q1.out)
  have R2 := Lib.hid (row_below bb Q2.out)
  have B8 := Lib.hid (C7.out.trans (bb.mono C7.out.size))
  clear bb F1 F2 Q1 Q2 HD C7
  go_wp2_with fail
  have gc0 : w8.cell? ⟨w6.heap.size, 0, none⟩ = some (.slice A1 (dn a) c1) := cell_of_row w8 _ 0 _ _ _ R1.out
  have gc1 : w8.cell? ⟨w6.heap.size, 1, none⟩ = some (.bool (sg a)) := cell_of_row w8 _ 1 _ _ _ R1.out
  have gc2 : w8.cell? ⟨w6.heap.size + 1, 0, none⟩ = some (.slice A2 (dn b) c2) := cell_of_row w8 _ 0 _ _ _ R2.out
  have gc3 : w8.cell? ⟨w6.heap.size + 1, 1, none⟩ = some (.bool (sg b)) := cell_of_row w8 _ 1 _ _ _ R2.out
  have g0 := Lib.hid gc0
  have g1 := Lib.hid gc1
  have g2 := Lib.hid gc2
  have g3 := Lib.hid gc3
  clear gc0 gc1 gc2 gc3
  have E2d := Lib.hid (show WD w8.drew A2 c2 b from E2.out)
  have E1d := Lib.hid (show WD w8.drew A1 c1 a from E1.out)
  go_region_held3 (fun w' => w'.cell? ⟨w6.heap.size, 0, none⟩ = some (.slice A1 (dn a) c1) ∧ w'.cell? ⟨w6.heap.size, 1, none⟩ = some (.bool (sg a)) ∧ w'.cell? ⟨w6.heap.size + 1, 0, none⟩ = some (.slice A2 (dn b) c2) ∧ w'.cell? ⟨w6.heap.size + 1, 1, none⟩ = some (.bool (sg b))) (first | exact ⟨g0.out, g1.out, g2.out, g3.out⟩ | exact ⟨k0.out, k1.out, k2.out, k3.out⟩ | exact ⟨l0.out, l1.out, l2.out, l3.out⟩ | exact ⟨m0.out, m1.out, m2.out, m3.out⟩) (first
    | (go_at_call 17; (with_reducible refine (refTurn_agg b A2 c2 _ E2d.out (by have := DB.out; omega)).mono ?_); rintro e w9 ⟨⟨A4, c4, rfl, hd4⟩, b9⟩; have k0 := Lib.hid (cell_keep (show w8.drew.cell? _ = some _ from g0.out) b9); have k1 := Lib.hid (cell_keep (show w8.drew.cell? _ = some _ from g1.out) b9); have k2 := Lib.hid (cell_keep (show w8.drew.cell? _ = some _ from g2.out) b9); have k3 := Lib.hid (cell_keep (show w8.drew.cell? _ = some _ from g3.out) b9); have HD4 := Lib.hid hd4; have I1 := Lib.hid (E1d.out.below b9); have I2 := Lib.hid (E2d.out.below b9); have S1 := Lib.hid (row_below b9 (show w8.drew.heap[w6.heap.size]? = _ from R1.out)); have S2 := Lib.hid (row_below b9 (show w8.drew.heap[w6.heap.size + 1]? = _ from R2.out)); have B9 := Lib.hid (B8.out.trans ((of_drew b9).mono B8.out.size)); clear b9 hd4)
    | (go_at_call 16; (with_reducible refine (refAdd_agg a (-b) A1 A4 c1 c4 _ I1.out HD4.out (by have := DA.out; omega) (by rw [dn_neg]; have := DB.out; omega)).mono ?_); rintro e w10 ⟨⟨A5, c5, rfl, hd5⟩, b10⟩; have l0 := Lib.hid (cell_keep k0.out b10); have l1 := Lib.hid (cell_keep k1.out b10); have l2 := Lib.hid (cell_keep k2.out b10); have l3 := Lib.hid (cell_keep k3.out b10); have HD5 := Lib.hid hd5; have J1 := Lib.hid (I1.out.below b10); have J2 := Lib.hid (I2.out.below b10); have T1 := Lib.hid (row_below b10 S1.out); have T2 := Lib.hid (row_below b10 S2.out); have B10 := Lib.hid (B9.out.trans (b10.mono B9.out.size)); clear b10 hd5)
    | (go_at_call 15; (with_reducible refine (refInt_agg (a + -b) A5 c5 _ HD5.out).mono ?_); rintro e w11 ⟨rfl, b11⟩; rw [← Int.sub_eq_add_neg, K2.out]; have m0 := Lib.hid (cell_keep l0.out b11); have m1 := Lib.hid (cell_keep l1.out b11); have m2 := Lib.hid (cell_keep l2.out b11); have m3 := Lib.hid (cell_keep l3.out b11); have L1 := Lib.hid (J1.out.below b11); have L2 := Lib.hid (J2.out.below b11); have U1 := Lib.hid (row_below b11 T1.out); have U2 := Lib.hid (row_below b11 T2.out); have B11 := Lib.hid (B10.out.trans (b11.mono B10.out.size)); clear b11))
  have gc0 : w11.cell? ⟨w6.heap.size, 0, none⟩ = some (.slice A1 (dn a) c1) := cell_of_row w11 _ 0 _ _ _ U1.out
  have gc1 : w11.cell? ⟨w6.heap.size, 1, none⟩ = some (.bool (sg a)) := cell_of_row w11 _ 1 _ _ _ U1.out
  have gc2 : w11.cell? ⟨w6.heap.size + 1, 0, none⟩ = some (.slice A2 (dn b) c2) := cell_of_row w11 _ 0 _ _ _ U2.out
  have gc3 : w11.cell? ⟨w6.heap.size + 1, 1, none⟩ = some (.bool (sg b)) := cell_of_row w11 _ 1 _ _ _ U2.out
  go_wp2_with fail
  refine (refMul_agg a b A1 A2 c1 c2 w11 L1.out L2.out (by have := DA.out; omega) (by have := DB.out; omega)).mono ?_
  rintro e w12 ⟨⟨A6, c6, rfl, hd⟩, bb⟩
  have B12 := Lib.hid (B11.out.trans (bb.mono B11.out.size))
  have HD := Lib.hid hd
  clear bb hd gc0 gc1 gc2 gc3
  go_wp2_with fail
  refine (refInt_agg (a * b) A6 c6 w12 HD.out).mono ?_
  rintro e w13 ⟨rfl, bb⟩
  rw [K3.out]
  have B13 := Lib.hid (B12.out.trans (bb.mono B12.out.size))
  clear bb
  go_wp2
  go_ret
  exact ⟨rfl, B13.out⟩
set_option maxRecDepth 100000 in
/-- What the walk gives, for every argument and every world. -/
theorem contract (H : Type) (enc : TypeId × Value → H) (W : World) (base : Nat) (args : Array Value) (ds gs : List (DataW H)) (before : List MemPlace)
    (hval : ∀ (j : Nat) t v, Tryd.f3.params[j]? = some t → args[j]? = some v → Value.okWide Tryd.prog W .any base t v)
    (hW : DataW.Whole enc Tryd.prog Tryd.f3.params.toList Rows.tickAddsSpec.vars false W args.toList ds gs before) (hL : laidMetH Tryd.prog Rows.tickAddsRow.laid W) : 
    Calls Tryd.prog 3 args W fun e W' => ∃ v, e = .returned v ∧ Rows.tickAddsSpec.post enc Tryd.prog Tryd.f3 false true false false W args v W' := by
  have hW' := hW
  obtain ⟨p, q, hA0, hV, rfl, hfz, hnd⟩ := hW
  have hA : DataW.TrodAll enc Tryd.prog W 0 (fun _ => true) true Tryd.f3.params.toList args.toList ds p := hA0
  rw [Tryd.params3] at hA hval
  obtain ⟨v0, vs0, d0, ds0, p0, q0, hargs, rfl, rfl, h0, r0⟩ := trodAll_cons hA
  obtain ⟨v1, vs1, d1, ds1, p1, q1, rfl, rfl, rfl, h1, r1⟩ := trodAll_cons r0
  obtain ⟨rfl, rfl, rfl⟩ := trodAll_nil r1
  obtain rfl : args = #[v0, v1] := by cases args; simp_all
  obtain ⟨rfl, rfl⟩ := trodVars_none hV
  obtain ⟨a, rfl, rfl, rfl, w0⟩ := open_int Tryd.underlying2 (hval 0 2 v0 rfl rfl) h0
  obtain ⟨b, rfl, rfl, rfl, w1⟩ := open_int Tryd.underlying2 (hval 1 2 v1 rfl rfl) h1
  refine (walk a b w0 w1 W (laid_of hL)).mono fun e W' ⟨he, hb⟩ => ?_
  exact ⟨_, he, Shell.post_law laidOut (by kernel_rfl) rfl Tryd.underlying4 rfl hW' rfl hb⟩
theorem reads (os : Os) {H : Type} (enc : TypeId × Value → H) : ∃ places, DataW.whole enc Tryd.prog ((laidWorld os).forCall (fun _ _ => 0) ⟨#[], #[.int .i64 0, .int .i64 0], []⟩).memory Tryd.f3.params.toList Rows.tickAddsSpec.vars false (#[Value.int .i64 0, Value.int .i64 0]).toList 8 = some ([.lit (.int .i64 0), .lit (.int .i64 0)], [], places) :=
  ⟨[], by kernel_rfl⟩
set_option maxRecDepth 100000 in
theorem lifted (os : Os) (started : os.Started) (H : Type) (enc : TypeId × Value → H) (F : Stop.Interp) :
    ReturnsInHanded {} Tryd.checked os 3 .any ((OpenSpec.ofChange Rows.tickAddsSpec).preRow enc Tryd.prog Tryd.f3 Rows.tickAddsRow.domain false Rows.tickAddsRow.laid) (((OpenSpec.ofChange Rows.tickAddsSpec).at F).post enc Tryd.prog Tryd.f3 false true false false) := by
  obtain ⟨places, hx⟩ := reads os enc
  refine returnsInHanded_of_row (C := Tryd.checked) (s := OpenSpec.ofChange Rows.tickAddsSpec) own started (by kernel_rfl) Tryd.func3
    (witness_row_atRef (enc := enc) (C := Tryd.checked) false (laidWorld os) #[.int .i64 0, .int .i64 0] rfl (by kernel_rfl) (by kernel_rfl) (by kernel_rfl)
      (OpenSpec.preRow_of_cond 8 hx (by kernel_rfl) (fun k hk => by cases hk) (by kernel_rfl) (laid_met os _))) ?_
  intro W base args ds gs before hval hW _ _ _ hL _ _
  exact contract H enc W base args ds gs before hval hW hL
theorem said : Rows.TickAddsSaid :=
  OpenClaim.holds_of_cond 3 Tryd.f3 rfl rfl rfl rfl rfl rfl rfl ⟨rfl, rfl, rfl, rfl, rfl⟩ rfl rfl rfl rfl rfl (by kernel_rfl) Tryd.func3 (by kernel_rfl)
    (of_decide_eq_true (by kernel_rfl)) (by unfold Func.isWrapper; first | (rw [if_pos (by decide +kernel)]; kernel_rfl) | (rw [if_neg (by decide +kernel)]; exact ⟨rfl, rfl⟩))
    (fun os started H enc _ F => by rw [OpenClaim.pre_eq_preRow]; exact lifted os started H enc F)
theorem plain (f : FuncId) (fn : Func) (hf : Tryd.pinned.checked.prog.funcNamed "tocsin/tocsinlaw02.TickAdds" = some f) (hfn : Tryd.pinned.checked.prog.funcs[f]? = some fn) :
    true = Tryd.pinned.checked.prog.looks [] ∧ ∀ (j : Nat) t, fn.params[j]? = some t → Tryd.pinned.checked.prog.wantsStandIn t = false := by
  obtain rfl : f = 3 := Option.some.inj ((show Tryd.prog.funcNamed "tocsin/tocsinlaw02.TickAdds" = some 3 by kernel_rfl).symm.trans hf) |>.symm
  obtain rfl : fn = Tryd.f3 := (Option.some.inj (Tryd.func3.symm.trans hfn)).symm
  refine ⟨by kernel_rfl, fun j t ht => ?_⟩
  rw [Tryd.params3] at ht
  have hall : ∀ t ∈ Tryd.f3.params.toList, Tryd.prog.wantsStandIn t = false := by
    rw [Tryd.params3]
    have h : ((#[2, 2] : Array TypeId).toList.all fun t => !Tryd.prog.wantsStandIn t) = true := by kernel_rfl
    intro t ht
    simpa using (List.all_eq_true.1 h) t ht
  exact hall t (by rw [Tryd.params3]; exact Array.mem_toList_iff.2 (Array.mem_of_getElem? ht))
theorem card : Rows.TickAddsCardSaid :=
  Claim7.holds_tied_plain_at .later [] _ _ _ _ said (fun _ h => by cases h) (by kernel_rfl) (fun _ h => by cases h) tickAdds_row_tie rfl ⟨rfl, rfl⟩ (by kernel_rfl) rfl plain (by kernel_rfl)
end Go.Proofs.YtkbkjbnfkgncdaaDoor.TickW.TickAdds
