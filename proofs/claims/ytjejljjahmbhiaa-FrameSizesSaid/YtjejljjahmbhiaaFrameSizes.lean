/- tocsinlaw06.FrameSizes. -/
import Derived.Test.YtjejljjahmbhiaaFrameEq
import Derived.ChangeMaps5
namespace Go.Proofs.Ytjejljjahmbhiaa.FrameW.FrameSizes
open Go.ChangeShapes Go.WideShapes Go.ChangeAt Go.RowKit Shell
open Go.ChangeMaps (open_string)
theorem dat_z {c l n : Int} {p : List Int} {s : Int} (h : rightD c l n p s) : zOf (dat c l n p s) = p.length := by
  obtain ⟨-, -, -, -, -, h6, h7, h8⟩ := h
  show val (be 2 p.length) = p.length
  rw [val_be 2 _ (by omega)]
set_option maxHeartbeats 4000000 in
theorem walk (p : ByteArray) (n : Int) (w : World) (hn : 0 ≤ n ∧ n ≤ 65535) :
    Calls Try.prog 10 #[.string p, .int .u16 n] w fun e w' => e = .returned (.bool true) ∧ Below w.heap.size w w' := by
  have HX := Lib.hid (show ∀ W, Calls Try.prog 11 #[] W fun e w' => e = .returned (.bool true) ∧ Below W.heap.size W w' from fixed_any)
  obtain ⟨n0, n1⟩ := hn
  obtain ⟨N, hN⟩ : ∃ N : Nat, (64 : Int) + n % 1455 = (N : Int) := ⟨(64 + n % 1455).toNat, by omega⟩
  have h64 : 64 ≤ N := by omega
  have h15 : N ≤ 1518 := by omega
  have HN := Lib.hid (And.intro h64 h15)
  have hw16 : IntKind.i64.wrap n = n := by rw [IntKind.wrap_i64]; omega
  have n64 : (64 : Int) ≤ (N : Int) := by omega
  have n15 : (N : Int) ≤ 1518 := by omega
  by_cases hc : (p.size : Int) ≤ (N : Int) - 14
  · obtain ⟨q, hq⟩ : ∃ q, q = p := ⟨_, rfl⟩
    obtain ⟨m, hm⟩ : ∃ m : Nat, m = p.size := ⟨_, rfl⟩
    have HQ := Lib.hid (show q.size = m by rw [hq, hm])
    have HR := Lib.hid (show rightD 3 3 0 (bs q) (N : Int) from ⟨by omega, by omega, by omega, by omega, by omega, by omega, by omega, by rw [bs_len, HQ.out]; omega⟩)
    have HM := Lib.hid (show m + 14 ≤ N by omega)
    subst hq
    clear hm
    go_enter Try.func10, Try.ntmps10
    go_wp2_with fail
    refine (HX.out _).mono ?_
    rintro e w1 ⟨rfl, b1⟩
    have B1 := Lib.hid b1
    clear b1
    go_wp2_with fail
    refine (data_ok 3 3 0 q (N : Int) w1 HR.out).mono ?_
    rintro e w2 ⟨v2, rfl, o2, b2⟩
    obtain ⟨A2, m2, d2, rfl, hm2, hb2, hc2⟩ := o2.form2
    have hdl := dat_len HR.out
    rw [Int.toNat_natCast] at hdl
    have em2 : m2 = N := by rw [hm2, hdl]
    subst em2
    have B2 := Lib.hid (B1.out.trans (b2.mono B1.out.size))
    obtain ⟨a, rfl⟩ := hb2.some (by rw [hdl]; have := HN.out; omega)
    have hz : zOf (dat 3 3 0 (bs q) (m2 : Int)) = m := by rw [dat_z HR.out, bs_len, HQ.out]
    have hp := (dat_read (bs_by q) HR.out).2.2.2.2.1
    have hbl := (dat_read (bs_by q) HR.out).1.2.2.1
    rw [hz, hdl] at hbl
    unfold pOf at hp
    rw [hz] at hp
    have C1 := conv_str (w := w2) (A := some (a.add 10)) (xs := bs q) (n := m) (c := d2 - 10) (by have := hb2.sl 10 (10 + m); rwa [hp] at this) (by rw [bs_len, HQ.out])
    rw [str_bs, show a.add 10 = ⟨a.block, a.off + 10, none⟩ from rfl] at C1
    have hL := hb2.sl (10 + m) (m2 - 4)
    have hll : (sl (dat 3 3 0 (bs q) (m2 : Int)) (10 + m) (m2 - 4)).length = m2 - 4 - (10 + m) := sl_len (by have := HM.out; omega) (by rw [hdl]; omega)
    generalize sl (dat 3 3 0 (bs q) (m2 : Int)) (10 + m) (m2 - 4) = L at *
    have HL := Lib.hid hL
    have HB := Lib.hid hbl
    have HLL := Lib.hid hll
    have k0 : (64 : Int) ≤ (m2 : Int) := by have := HN.out; omega
    have k1 : (m2 : Int) ≤ 1518 := by have := HN.out; omega
    have k2 : (10 : Int) + (m : Int) ≤ (m2 : Int) - 4 := by have := HM.out; omega
    have k3 : (m2 : Int) ≤ (d2 : Int) := by omega
    have k4 : ¬ d2 = 10 := by omega
    have k5 : ¬ d2 = 10 + m := by omega
    have k6 : (q.size : Int) = (m : Int) := by rw [HQ.out]
    have k7 := HQ.out
    clear o2 b2 hm2 hdl hb2 hz hp hbl hL hll
    have kz : ∀ x ∈ L, x = 0 := HB.out
    have HKZ := Lib.hid kz
    have HT := Lib.hid (show tim (m2 : Int) = 8 * (m2 : Int) by unfold tim; rw [if_neg (by omega), if_neg (by omega)]; omega)
    clear kz
    go_wp2_with fail
    obtain ⟨K, hK⟩ : ∃ K, K = m2 - 4 - (10 + m) := ⟨_, rfl⟩
    rw [← hK] at HLL ⊢
    have kk : (K : Int) ≤ 1518 := by omega
    obtain ⟨b, hb⟩ : ∃ b, b = a.add (10 + m) := ⟨_, rfl⟩
    rw [← hb] at HL ⊢
    clear hK hb C1 hc2
    go_loopw [56] (fun iv wr => ∃ k : Nat, k ≤ K ∧ iv = .int .i64 k ∧ wr = w2) (fun iv _ => K - (intOf iv).toNat)
    case atStart => exact ⟨0, Nat.zero_le _, rfl, rfl⟩
    case round =>
      obtain ⟨k, hk, rfl, rfl⟩ := hrel
      by_cases hlt : k < K
      · obtain ⟨x, hx⟩ : ∃ x, L[k]? = some x := ⟨_, List.getElem?_eq_getElem (by rw [HLL.out]; exact hlt)⟩
        obtain ⟨ad, hd, hcell, -⟩ := HL.out k x hx
        cases hd
        have x0 := HKZ.out x (List.mem_of_getElem? hx)
        rw [x0] at hcell
        clear hx x0
        go_wp2
        go_roundw
        case rel => exact ⟨k + 1, by omega, by go_num, trivial⟩
        case measure => simp [intOf]; omega
      · obtain rfl : k = K := by omega
        go_wp2_with (go_at_call 25; (with_reducible refine (time_any _ _).mono ?_); rintro e w9 ⟨rfl, hw⟩; obtain rfl := hw.symm; rw [HT.out])
        go_ret
        exact ⟨rfl, B2.out⟩
  · obtain ⟨q, hq⟩ : ∃ q, q = p.extract 0 ((N : Int) - 14).toNat := ⟨_, rfl⟩
    obtain ⟨m, hm⟩ : ∃ m : Nat, m = N - 14 := ⟨_, rfl⟩
    have HQ := Lib.hid (show q.size = m by rw [hq, ByteArray.size_extract, hm]; omega)
    have HR := Lib.hid (show rightD 3 3 0 (bs q) (N : Int) from ⟨by omega, by omega, by omega, by omega, by omega, by omega, by omega, by rw [bs_len, HQ.out]; omega⟩)
    have HM := Lib.hid (show m + 14 ≤ N by omega)
    have hq2 := hq.symm
    clear hq hm
    go_enter Try.func10, Try.ntmps10
    go_wp2_with fail
    refine (HX.out _).mono ?_
    rintro e w1 ⟨rfl, b1⟩
    have B1 := Lib.hid b1
    clear b1
    go_wp2_with fail
    refine (data_ok 3 3 0 q (N : Int) w1 HR.out).mono ?_
    rintro e w2 ⟨v2, rfl, o2, b2⟩
    obtain ⟨A2, m2, d2, rfl, hm2, hb2, hc2⟩ := o2.form2
    have hdl := dat_len HR.out
    rw [Int.toNat_natCast] at hdl
    have em2 : m2 = N := by rw [hm2, hdl]
    subst em2
    have B2 := Lib.hid (B1.out.trans (b2.mono B1.out.size))
    obtain ⟨a, rfl⟩ := hb2.some (by rw [hdl]; have := HN.out; omega)
    have hz : zOf (dat 3 3 0 (bs q) (m2 : Int)) = m := by rw [dat_z HR.out, bs_len, HQ.out]
    have hp := (dat_read (bs_by q) HR.out).2.2.2.2.1
    have hbl := (dat_read (bs_by q) HR.out).1.2.2.1
    rw [hz, hdl] at hbl
    unfold pOf at hp
    rw [hz] at hp
    have C1 := conv_str (w := w2) (A := some (a.add 10)) (xs := bs q) (n := m) (c := d2 - 10) (by have := hb2.sl 10 (10 + m); rwa [hp] at this) (by rw [bs_len, HQ.out])
    rw [str_bs, show a.add 10 = ⟨a.block, a.off + 10, none⟩ from rfl] at C1
    have hL := hb2.sl (10 + m) (m2 - 4)
    have hll : (sl (dat 3 3 0 (bs q) (m2 : Int)) (10 + m) (m2 - 4)).length = m2 - 4 - (10 + m) := sl_len (by have := HM.out; omega) (by rw [hdl]; omega)
    generalize sl (dat 3 3 0 (bs q) (m2 : Int)) (10 + m) (m2 - 4) = L at *
    have HL := Lib.hid hL
    have HB := Lib.hid hbl
    have HLL := Lib.hid hll
    have k0 : (64 : Int) ≤ (m2 : Int) := by have := HN.out; omega
    have k1 : (m2 : Int) ≤ 1518 := by have := HN.out; omega
    have k2 : (10 : Int) + (m : Int) ≤ (m2 : Int) - 4 := by have := HM.out; omega
    have k3 : (m2 : Int) ≤ (d2 : Int) := by omega
    have k4 : ¬ d2 = 10 := by omega
    have k5 : ¬ d2 = 10 + m := by omega
    have k6 : (q.size : Int) = (m : Int) := by rw [HQ.out]
    have k7 := HQ.out
    clear o2 b2 hm2 hdl hb2 hz hp hbl hL hll
    have kz : ∀ x ∈ L, x = 0 := HB.out
    have HKZ := Lib.hid kz
    have HT := Lib.hid (show tim (m2 : Int) = 8 * (m2 : Int) by unfold tim; rw [if_neg (by omega), if_neg (by omega)]; omega)
    clear kz
    go_wp2_with fail
    obtain ⟨K, hK⟩ : ∃ K, K = m2 - 4 - (10 + m) := ⟨_, rfl⟩
    rw [← hK] at HLL ⊢
    have kk : (K : Int) ≤ 1518 := by omega
    obtain ⟨b, hb⟩ : ∃ b, b = a.add (10 + m) := ⟨_, rfl⟩
    rw [← hb] at HL ⊢
    clear hK hb C1 hc2
    go_loopw [56] (fun iv wr => ∃ k : Nat, k ≤ K ∧ iv = .int .i64 k ∧ wr = w2) (fun iv _ => K - (intOf iv).toNat)
    case atStart => exact ⟨0, Nat.zero_le _, rfl, rfl⟩
    case round =>
      obtain ⟨k, hk, rfl, rfl⟩ := hrel
      by_cases hlt : k < K
      · obtain ⟨x, hx⟩ : ∃ x, L[k]? = some x := ⟨_, List.getElem?_eq_getElem (by rw [HLL.out]; exact hlt)⟩
        obtain ⟨ad, hd, hcell, -⟩ := HL.out k x hx
        cases hd
        have x0 := HKZ.out x (List.mem_of_getElem? hx)
        rw [x0] at hcell
        clear hx x0
        go_wp2
        go_roundw
        case rel => exact ⟨k + 1, by omega, by go_num, trivial⟩
        case measure => simp [intOf]; omega
      · obtain rfl : k = K := by omega
        go_wp2_with (go_at_call 25; (with_reducible refine (time_any _ _).mono ?_); rintro e w9 ⟨rfl, hw⟩; obtain rfl := hw.symm; rw [HT.out])
        go_ret
        exact ⟨rfl, B2.out⟩
set_option maxRecDepth 100000 in
/-- What the walk gives, for every argument and every world. -/
theorem contract (H : Type) (enc : TypeId × Value → H) (W : World) (base : Nat) (args : Array Value) (ds gs : List (DataW H)) (before : List MemPlace)
    (hval : ∀ (j : Nat) t v, Try.f10.params[j]? = some t → args[j]? = some v → Value.okWide Try.prog W .any base t v)
    (hW : DataW.Whole enc Try.prog Try.f10.params.toList Rows.frameSizesSpec.vars false W args.toList ds gs before) : 
    Calls Try.prog 10 args W fun e W' => ∃ v, e = .returned v ∧ Rows.frameSizesSpec.post enc Try.prog Try.f10 false true false false W args v W' := by
  have hW' := hW
  obtain ⟨p, q, hA0, hV, rfl, hfz, hnd⟩ := hW
  have hA : DataW.TrodAll enc Try.prog W 0 (fun _ => true) true Try.f10.params.toList args.toList ds p := hA0
  rw [Try.params10] at hA hval
  obtain ⟨v0, vs0, d0, ds0, p0, q0, hargs, rfl, rfl, h0, r0⟩ := trodAll_cons hA
  obtain ⟨v1, vs1, d1, ds1, p1, q1, rfl, rfl, rfl, h1, r1⟩ := trodAll_cons r0
  obtain ⟨rfl, rfl, rfl⟩ := trodAll_nil r1
  obtain rfl : args = #[v0, v1] := by cases args; simp_all
  obtain ⟨rfl, rfl⟩ := trodVars_none hV
  obtain ⟨p, rfl, rfl, rfl, w0⟩ := open_string Try.underlying9 (hval 0 9 v0 rfl rfl) h0
  obtain ⟨n, rfl, rfl, rfl, w1⟩ := open_int Try.underlying49 (hval 1 49 v1 rfl rfl) h1
  refine (walk p n W (u16_wf w1)).mono fun e W' ⟨he, hb⟩ => ?_
  exact ⟨_, he, Shell.post_law laidOut (by kernel_rfl) rfl Try.underlying4 rfl hW' rfl hb⟩
theorem reads (os : Os) {H : Type} (enc : TypeId × Value → H) : ∃ places, DataW.whole enc Try.prog ((World.holding Try.prog os ⟨#[], #[], []⟩).forCall (fun _ _ => 0) ⟨#[], #[.string ⟨#[]⟩, .int .u16 0], []⟩).memory Try.f10.params.toList Rows.frameSizesSpec.vars false (#[Value.string ⟨#[]⟩, Value.int .u16 0]).toList 8 = some ([.lit (.string []), .lit (.int .u16 0)], [], places) :=
  ⟨[], by kernel_rfl⟩
set_option maxRecDepth 100000 in
theorem lifted (os : Os) (started : os.Started) (H : Type) (enc : TypeId × Value → H) (F : Stop.Interp) :
    ReturnsInHanded {} Try.checked os 10 .any ((OpenSpec.ofChange Rows.frameSizesSpec).preRow enc Try.prog Try.f10 Rows.frameSizesRow.domain false Rows.frameSizesRow.laid) (((OpenSpec.ofChange Rows.frameSizesSpec).at F).post enc Try.prog Try.f10 false true false false) := by
  obtain ⟨places, hx⟩ := reads os enc
  refine returnsInHanded_of_row (C := Try.checked) (s := OpenSpec.ofChange Rows.frameSizesSpec) own started (by kernel_rfl) Try.func10
    (witness_row_atRef (enc := enc) (C := Try.checked) false (World.holding Try.prog os ⟨#[], #[], []⟩) #[.string ⟨#[]⟩, .int .u16 0] rfl (by kernel_rfl) (by kernel_rfl) (by kernel_rfl)
      (OpenSpec.preRow_of_cond 8 hx (by kernel_rfl) (fun k hk => by cases hk) (by kernel_rfl) (laid_met os _))) ?_
  intro W base args ds gs before hval hW _ _ _ hL _ _
  exact contract H enc W base args ds gs before hval hW
theorem said : Rows.FrameSizesSaid :=
  OpenClaim.holds_of_cond 10 Try.f10 rfl rfl rfl rfl rfl rfl rfl ⟨rfl, rfl, rfl, rfl, rfl⟩ rfl rfl rfl rfl rfl (by kernel_rfl) Try.func10 (by kernel_rfl)
    (of_decide_eq_true (by kernel_rfl)) (by unfold Func.isWrapper; first | (rw [if_pos (by decide +kernel)]; kernel_rfl) | (rw [if_neg (by decide +kernel)]; exact ⟨rfl, rfl⟩))
    (fun os started H enc _ F => by rw [OpenClaim.pre_eq_preRow]; exact lifted os started H enc F)
end Go.Proofs.Ytjejljjahmbhiaa.FrameW.FrameSizes
