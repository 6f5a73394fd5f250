/- tocsinlaw02.TickTexts: for every input the call returns true and leaves its arguments: each number is written and read again, the least one too, and any other text is refused, as the document says. No condition but the row's own: the listed package-level variables hold what the text lays (the card ties them). -/
import Derived.Test.YtkbkjbnfkgncdaaDoorTickLay
import Derived.Test.YtkbkjbnfkgncdaaDoorTickParse
import Derived.SizedLaws
namespace Go.Proofs.YtkbkjbnfkgncdaaDoor.TickW.TickTexts
open Go.ChangeShapes Go.WideShapes Go.ChangeAt Go.RowKit
open Go.ChangeMaps (open_string)
theorem i64_of {n : Int} (h : (Lit.int .i64 n).wf = true) : -9223372036854775808 ≤ n ∧ n ≤ 9223372036854775807 := by
  simp [Lit.wf] at h
  exact h
theorem back (n : Int) (h0 : -9223372036854775808 ≤ n) (h1 : n ≤ 9223372036854775807) : parseN (itoaS n) = some n := by
  unfold parseN
  rw [show (itoaS n).data.toList = Lib.itoa n from rfl, parse_itoa n h0 h1]
  exact if_pos rfl
theorem itoa_short (n : Int) (h0 : -9223372036854775808 ≤ n) (h1 : n ≤ 9223372036854775807) : (itoaS n).size ≤ 281474976710656 := by
  have hl : (itoaS n).size = (Lib.itoa n).length := by rw [Lib.size_eq]; rfl
  rw [hl]
  unfold Lib.itoa
  split
  · rw [List.length_cons, Lib.decDigits_length]
    have := nd19 n.natAbs (by omega)
    omega
  · rw [Lib.decDigits_length]
    have := nd19 n.toNat (by omega)
    omega
theorem parse_print {s : ByteArray} {v : Int} (h : parseN s = some v) : itoaS v = s ∧ -9223372036854775808 ≤ v ∧ v ≤ 9223372036854775807 := by
  rw [parse_core] at h
  obtain ⟨h1, h2, h3⟩ := itoa_of_coreR h
  refine ⟨?_, h2, h3⟩
  unfold itoaS
  rw [h1]
set_option maxHeartbeats 2000000 in
set_option maxRecDepth 100000 in
theorem walk (n : Int) (s : ByteArray) (wn : (Lit.int .i64 n).wf = true) (hs : s.size ≤ 281474976710656) (w : World) (hL : Laid w) :
    Calls Tryd.prog 6 #[.int .i64 n, .string s] w fun e w' => e = .returned (.bool true) ∧ Below w.heap.size w w' := by
  have HL := Lib.hid hL
  obtain ⟨n0, n1⟩ := i64_of wn
  have HN := Lib.hid (And.intro n0 n1)
  have HP := Lib.hid (back n n0 n1)
  have HI := Lib.hid (itoa_short n n0 n1)
  have HZ := Lib.hid hs
  clear hL wn n0 n1 hs
  cases hv : parseN s with
  | some v =>
    have HS := Lib.hid hv
    obtain ⟨he, v0, v1⟩ := parse_print hv
    have HV := Lib.hid (And.intro v0 v1)
    have HE := Lib.hid he
    clear hv he v0 v1
    go_enter Tryd.func6, Tryd.ntmps6
    go_wp2_with fail
    refine (fixed_any _ HL.out).mono ?_
    rintro e w1 ⟨rfl, b1⟩
    have L1 := Lib.hid (HL.out.below b1)
    have B1 := Lib.hid b1
    clear b1
    go_wp2_with fail
    refine (print_any n HN.out.1 HN.out.2 _ L1.out).mono ?_
    rintro e w2 ⟨rfl, b2⟩
    have L2 := Lib.hid (L1.out.below b2)
    have B2 := Lib.hid (B1.out.trans (b2.mono B1.out.size))
    clear b2
    go_wp2_with fail
    refine (parse_any (itoaS n) HI.out _ L2.out).mono ?_
    rintro e w3 ⟨rfl, b3⟩
    rw [HP.out]
    unfold parseV
    have L3 := Lib.hid (L2.out.below b3)
    have B3 := Lib.hid (B2.out.trans (b3.mono B2.out.size))
    clear b3
    go_wp2_with fail
    refine (parse_any s HZ.out _ L3.out).mono ?_
    rintro e w4 ⟨rfl, b4⟩
    rw [HS.out]
    unfold parseV
    have L4 := Lib.hid (L3.out.below b4)
    have B4 := Lib.hid (B3.out.trans (b4.mono B3.out.size))
    clear b4
    go_wp2_with fail
    refine (refParse_any s HZ.out _).mono ?_
    rintro e w5 ⟨rfl, rfl⟩
    rw [← parse_core, HS.out]
    unfold parseV
    go_wp2_with fail
    refine (refPrint_nat n _ rfl HN.out.1 HN.out.2 _).mono ?_
    rintro e w6 ⟨rfl, b6⟩
    have L6 := Lib.hid (L4.out.below b6)
    have B6 := Lib.hid (B4.out.trans (b6.mono B4.out.size))
    clear b6
    generalize itoaS n = t at *
    have kt := str_eq (rfl : t = t)
    go_wp2_with fail
    refine (print_any v HV.out.1 HV.out.2 _ L6.out).mono ?_
    rintro e w7 ⟨rfl, b7⟩
    rw [HE.out]
    have B7 := Lib.hid (B6.out.trans (b7.mono B6.out.size))
    clear b7
    have ks := str_eq (rfl : s = s)
    go_wp2
    go_ret
    exact ⟨rfl, B7.out⟩
  | none =>
    have HS := Lib.hid hv
    clear hv
    go_enter Tryd.func6, Tryd.ntmps6
    go_wp2_with fail
    refine (fixed_any _ HL.out).mono ?_
    rintro e w1 ⟨rfl, b1⟩
    have L1 := Lib.hid (HL.out.below b1)
    have B1 := Lib.hid b1
    clear b1
    go_wp2_with fail
    refine (print_any n HN.out.1 HN.out.2 _ L1.out).mono ?_
    rintro e w2 ⟨rfl, b2⟩
    have L2 := Lib.hid (L1.out.below b2)
    have B2 := Lib.hid (B1.out.trans (b2.mono B1.out.size))
    clear b2
    go_wp2_with fail
    refine (parse_any (itoaS n) HI.out _ L2.out).mono ?_
    rintro e w3 ⟨rfl, b3⟩
    rw [HP.out]
    unfold parseV
    have L3 := Lib.hid (L2.out.below b3)
    have B3 := Lib.hid (B2.out.trans (b3.mono B2.out.size))
    clear b3
    go_wp2_with fail
    refine (parse_any s HZ.out _ L3.out).mono ?_
    rintro e w4 ⟨rfl, b4⟩
    rw [HS.out]
    unfold parseV
    have L4 := Lib.hid (L3.out.below b4)
    have B4 := Lib.hid (B3.out.trans (b4.mono B3.out.size))
    clear b4
    go_wp2_with fail
    refine (refParse_any s HZ.out _).mono ?_
    rintro e w5 ⟨rfl, rfl⟩
    rw [← parse_core, HS.out]
    unfold parseV
    go_wp2_with fail
    refine (refPrint_nat n _ rfl HN.out.1 HN.out.2 _).mono ?_
    rintro e w6 ⟨rfl, b6⟩
    have L6 := Lib.hid (L4.out.below b6)
    have B6 := Lib.hid (B4.out.trans (b6.mono B4.out.size))
    clear b6
    generalize itoaS n = t at *
    have kt := str_eq (rfl : t = t)
    go_wp2
    go_ret
    exact ⟨rfl, B6.out⟩
set_option maxRecDepth 100000 in
/-- What the walk gives, for every argument and every world. -/
theorem contract (H : Type) (enc : TypeId × Value → H) (W : World) (base : Nat) (args : Array Value) (ds gs : List (DataW H)) (before : List MemPlace)
    (hval : ∀ (j : Nat) t v, Tryd.f6.params[j]? = some t → args[j]? = some v → Value.okWide Tryd.prog W .any base t v)
    (hW : DataW.Whole enc Tryd.prog Tryd.f6.params.toList Rows.tickTextsSpec.vars false W args.toList ds gs before) (hL : laidMetH Tryd.prog Rows.tickTextsRow.laid W) (hz : (DataW.weightsEach Tryd.prog (Tryd.f6.params.toList ++ (OpenSpec.ofChange Rows.tickTextsSpec).bare.plain.varTypes Tryd.prog) (ds ++ gs)).all (· ≤ reachBytes) = true) : 
    Calls Tryd.prog 6 args W fun e W' => ∃ v, e = .returned v ∧ Rows.tickTextsSpec.post enc Tryd.prog Tryd.f6 false true false false W args v W' := by
  have hW' := hW
  obtain ⟨p, q, hA0, hV, rfl, hfz, hnd⟩ := hW
  have hA : DataW.TrodAll enc Tryd.prog W 0 (fun _ => true) true Tryd.f6.params.toList args.toList ds p := hA0
  rw [Tryd.params6] at hA hval
  obtain ⟨v0, vs0, d0, ds0, p0, q0, hargs, rfl, rfl, h0, r0⟩ := trodAll_cons hA
  obtain ⟨v1, vs1, d1, ds1, p1, q1, rfl, rfl, rfl, h1, r1⟩ := trodAll_cons r0
  obtain ⟨rfl, rfl, rfl⟩ := trodAll_nil r1
  obtain rfl : args = #[v0, v1] := by cases args; simp_all
  obtain ⟨rfl, rfl⟩ := trodVars_none hV
  obtain ⟨n, rfl, rfl, rfl, w0⟩ := open_int Tryd.underlying2 (hval 0 2 v0 rfl rfl) h0
  obtain ⟨s, rfl, rfl, rfl, w1⟩ := open_string Tryd.underlying9 (hval 1 9 v1 rfl rfl) h1
  have z1 : s.size ≤ 281474976710656 := by
    have := sized_string hz (j := 1) (t := 9) (bytes := s.data.toList) (by rw [Tryd.params6]; rfl) rfl
    rw [← Lib.size_eq, show reachBytes = 140737488351232 from rfl] at this
    omega
  refine (walk n s w0 z1 W (laid_of hL)).mono fun e W' ⟨he, hb⟩ => ?_
  exact ⟨_, he, Shell.post_law laidOut (by kernel_rfl) rfl Tryd.underlying4 rfl hW' rfl hb⟩
theorem reads (os : Os) {H : Type} (enc : TypeId × Value → H) : ∃ places, DataW.whole enc Tryd.prog ((laidWorld os).forCall (fun _ _ => 0) ⟨#[], #[.int .i64 0, .string ⟨#[]⟩], []⟩).memory Tryd.f6.params.toList Rows.tickTextsSpec.vars false (#[Value.int .i64 0, Value.string ⟨#[]⟩]).toList 8 = some ([.lit (.int .i64 0), .lit (.string [])], [], places) :=
  ⟨[], by kernel_rfl⟩
set_option maxRecDepth 100000 in
theorem lifted (os : Os) (started : os.Started) (H : Type) (enc : TypeId × Value → H) (F : Stop.Interp) :
    ReturnsInHanded {} Tryd.checked os 6 .any ((OpenSpec.ofChange Rows.tickTextsSpec).preRow enc Tryd.prog Tryd.f6 Rows.tickTextsRow.domain false Rows.tickTextsRow.laid) (((OpenSpec.ofChange Rows.tickTextsSpec).at F).post enc Tryd.prog Tryd.f6 false true false false) := by
  obtain ⟨places, hx⟩ := reads os enc
  refine returnsInHanded_of_row (C := Tryd.checked) (s := OpenSpec.ofChange Rows.tickTextsSpec) own started (by kernel_rfl) Tryd.func6
    (witness_row_atRef (enc := enc) (C := Tryd.checked) false (laidWorld os) #[.int .i64 0, .string ⟨#[]⟩] rfl (by kernel_rfl) (by kernel_rfl) (by kernel_rfl)
      (OpenSpec.preRow_of_cond 8 hx (by kernel_rfl) (fun k hk => by cases hk) (by kernel_rfl) (laid_met os _))) ?_
  intro W base args ds gs before hval hW _ _ hz hL _ _
  exact contract H enc W base args ds gs before hval hW hL hz
theorem said : Rows.TickTextsSaid :=
  OpenClaim.holds_of_cond 6 Tryd.f6 rfl rfl rfl rfl rfl rfl rfl ⟨rfl, rfl, rfl, rfl, rfl⟩ rfl rfl rfl rfl rfl (by kernel_rfl) Tryd.func6 (by kernel_rfl)
    (of_decide_eq_true (by kernel_rfl)) (by unfold Func.isWrapper; first | (rw [if_pos (by decide +kernel)]; kernel_rfl) | (rw [if_neg (by decide +kernel)]; exact ⟨rfl, rfl⟩))
    (fun os started H enc _ F => by rw [OpenClaim.pre_eq_preRow]; exact lifted os started H enc F)
theorem plain (f : FuncId) (fn : Func) (hf : Tryd.pinned.checked.prog.funcNamed "tocsin/tocsinlaw02.TickTexts" = some f) (hfn : Tryd.pinned.checked.prog.funcs[f]? = some fn) :
    true = Tryd.pinned.checked.prog.looks [] ∧ ∀ (j : Nat) t, fn.params[j]? = some t → Tryd.pinned.checked.prog.wantsStandIn t = false := by
  obtain rfl : f = 6 := Option.some.inj ((show Tryd.prog.funcNamed "tocsin/tocsinlaw02.TickTexts" = some 6 by kernel_rfl).symm.trans hf) |>.symm
  obtain rfl : fn = Tryd.f6 := (Option.some.inj (Tryd.func6.symm.trans hfn)).symm
  refine ⟨by kernel_rfl, fun j t ht => ?_⟩
  rw [Tryd.params6] at ht
  have hall : ∀ t ∈ Tryd.f6.params.toList, Tryd.prog.wantsStandIn t = false := by
    rw [Tryd.params6]
    have h : ((#[2, 9] : Array TypeId).toList.all fun t => !Tryd.prog.wantsStandIn t) = true := by kernel_rfl
    intro t ht
    simpa using (List.all_eq_true.1 h) t ht
  exact hall t (by rw [Tryd.params6]; exact Array.mem_toList_iff.2 (Array.mem_of_getElem? ht))
theorem card : Rows.TickTextsCardSaid :=
  Claim7.holds_tied_plain_at .later [] _ _ _ _ said (fun _ h => by cases h) (by kernel_rfl) (fun _ h => by cases h) tickTexts_row_tie rfl ⟨rfl, rfl⟩ (by kernel_rfl) rfl plain (by kernel_rfl)
end Go.Proofs.YtkbkjbnfkgncdaaDoor.TickW.TickTexts
