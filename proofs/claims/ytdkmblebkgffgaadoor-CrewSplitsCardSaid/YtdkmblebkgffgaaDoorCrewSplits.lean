/- tocsinlaw07.CrewSplits answers true at every input: a crew is its first host and the rest, and the hosts of two crews are those of both together. Condition: the library's table deBruijn32tab is as its initialiser lays it (tied by the card). -/
import Derived.Test.YtdkmblebkgffgaaDoorCrewLay
namespace Go.Proofs.YtdkmblebkgffgaaDoor.CrewW.CrewSplits
open Go.ChangeShapes Go.WideShapes Go.ChangeAt Go.RowKit Shell
theorem add_0 (a : Addr) : a.add 0 = a := by
  unfold Addr.add
  split <;> simp_all
/-- l[1:] of a row of ints. -/
theorem slice_1 {a : Addr} {m d : Nat} {L : List Int} {w : World} (hc : CL w .i64 (some a) L) (hm : m = L.length) (h1 : 1 ≤ m) (hd : m ≤ d) :
    ∃ A1, (∀ W, (Instr.slice 24 (.slice (some a) m d) (some (.int .i64 1)) none none).run Tryd.prog W = .ok (.slice A1 (m - 1) (d - 1)) W) ∧ CL w .i64 A1 (L.drop 1) := by
  refine ⟨if d = 1 then some a else some (a.add 1), fun W => ?_, ?_⟩
  · rw [run_slice_l W 24 (some a) m d (by kernel_rfl) .i64 1 (by decide) (by omega), show (sizeOf (Tryd.prog.elem 24)).run Tryd.prog W = .ok 1 W by kernel_rfl]
    simp [sliced, Result.andThen]
  · by_cases h : d = 1
    · rw [if_pos h, List.drop_eq_nil_of_le (by omega)]
      exact CL.none _ _ _
    · rw [if_neg h]
      exact hc.drop 1
theorem empty_or (w : World) {base : Nat} (h : base ≤ w.heap.size) : OR (w.alloc (.cells #[] 3)) base 3 .i64 (.slice (some ⟨w.heap.size, 0, none⟩) 0 0) [] := OR.new w 3 .i64 [] h Wf.nil (by decide)
set_option maxHeartbeats 16000000 in
theorem walk (a b : Nat) (w : World) (ha : a < 4294967296) (hb : b < 4294967296) (hT : Tz w) :
    Calls Tryd.prog 8 #[.int .u32 (a : Int), .int .u32 (b : Int)] w fun e w' => e = .returned (.bool true) ∧ Below w.heap.size w w' := by
  have HT := Lib.hid hT
  have HM := Lib.hid (fun W => members_any a W ha)
  have HMB := Lib.hid (fun W => members_any b W hb)
  have HLA := Lib.hid (mem_len a)
  have HLB := Lib.hid (mem_len b)
  have l1 : a ||| b < 2 ^ 32 := Nat.or_lt_two_pow (by omega) (by omega)
  have l2 : a &&& b < 2 ^ 32 := Nat.and_lt_two_pow _ (by omega)
  have HF := Lib.hid (fun W k => first_any a W ha k)
  have HB1 := Lib.hid (u32_or_nat a b ha hb)
  have HB2 := Lib.hid (u32_and_nat a b ha hb)
  have HC1 := Lib.hid (fun W => count_any a W ha)
  have HC2 := Lib.hid (fun W => count_any b W hb)
  have HC3 := Lib.hid (fun W => count_any (a ||| b) W (by omega))
  have HC4 := Lib.hid (fun W => count_any (a &&& b) W (by omega))
  have HOB := Lib.hid (of_both a b)
  have HR1 := Lib.hid (show ((a ||| b : Nat) : Int) % 64 = (((a ||| b) % 64 : Nat) : Int) by omega)
  have HRA := Lib.hid (show (a : Int) % 64 = ((a % 64 : Nat) : Int) by omega)
  have hsum := both_at a b
  have hs3 := mem_len (a ||| b)
  have hs4 := mem_len (a &&& b)
  have HSP := Lib.hid (split_at a)
  have hfl := fst_le a
  have HCD := Lib.hid (fun W => count_any (of ((mem a).drop 1)) W (by have := of_lt ((mem a).drop 1); omega))
  have HOO := Lib.hid (u32_or_nat (of ((mem a).drop 1)) (only (fst a)) (by have := of_lt ((mem a).drop 1); omega) (by have := only_lt (fst a); omega))
  clear l1 l2 hT
  generalize (a ||| b) % 64 = ab64 at *
  generalize a % 64 = a64 at *
  obtain ⟨mab, hmab⟩ : ∃ x, x = (mem (a ||| b)).length := ⟨_, rfl⟩
  obtain ⟨maa, hmaa⟩ : ∃ x, x = (mem (a &&& b)).length := ⟨_, rfl⟩
  rw [← hmab] at hsum hs3 HC3
  rw [← hmaa] at hsum hs4 HC4
  clear hmab hmaa
  obtain ⟨mb, hmb⟩ : ∃ x, x = (mem b).length := ⟨_, rfl⟩
  rw [← hmb] at hsum HLB HC2
  have HMBL := Lib.hid hmb
  clear hmb
  obtain ⟨ma, hma⟩ : ∃ x, x = (mem a).length := ⟨_, rfl⟩
  rw [← hma] at hsum HLA HC1 HSP
  have HMAL := Lib.hid hma
  clear hma
  generalize mem b = LB at *
  generalize mem a = LA at *
  generalize a ||| b = ao at *
  generalize a &&& b = aa at *
  generalize fst a = f at *
  have HS := Lib.hid hsum
  have HS3 := Lib.hid hs3
  have HS4 := Lib.hid hs4
  clear hsum hs3 hs4 ha hb
  have HFL := Lib.hid hfl.1
  have HFM := Lib.hid hfl.2
  clear hfl
  by_cases hf : 0 ≤ f
  · have HF0 := Lib.hid hf
    go_enter Tryd.func8, Tryd.ntmps8
    go_wp2_with fail
    refine (fixed_any w HT.out).mono ?_
    rintro e w1 ⟨rfl, b1⟩
    have B1 := Lib.hid b1
    clear b1
    go_wp2_with fail
    refine (HM.out _).mono ?_
    rintro e w2 ⟨v2, rfl, o2, b2⟩
    obtain ⟨A, d, rfl, hcl, hle, hnil, -⟩ := o2.form
    rw [← HMAL.out] at hle
    have CL2 := Lib.hid hcl
    have HNL := Lib.hid hnil
    have HLE := Lib.hid hle
    have B2 := Lib.hid (B1.out.trans (b2.mono B1.out.size))
    clear o2 hcl hle hnil b2
    rw [← HMAL.out]
    go_wp2_with fail
    refine (HF.out _ (HT.out.below B2.out)).mono ?_
    rintro e w9 ⟨rfl, hw⟩
    obtain rfl := hw.symm
    have hsp := HSP.out hf
    have HS0 := Lib.hid hsp.2.1
    have HS1 := Lib.hid hsp.2.2.1
    have HS2 := Lib.hid hsp.2.2.2
    have HPOS := Lib.hid (List.length_pos_iff.2 hsp.1)
    rw [← HMAL.out] at HPOS
    clear hsp
    obtain ⟨ad, rfl, hcell, -⟩ := CL2.out 0 f HS0.out
    rw [add_0] at hcell
    obtain ⟨A1, hsl, hcl1⟩ := slice_1 CL2.out HMAL.out HPOS.out HLE.out
    have CD := Lib.hid hcl1
    have HD1 := Lib.hid (show ma - 1 = (LA.drop 1).length by rw [List.length_drop, ← HMAL.out])
    rw [HS2.out] at HCD
    rw [HS1.out] at HOO
    clear HS1 HS2 HS0 hcl1 HSP
    generalize LA.drop 1 = LD at *
    have kp : (1 : Int) ≤ (ma : Int) := by have := HPOS.out; omega
    have kz : ((ma : Int) == 0) = false := by rw [beq_eq_false_iff_ne]; omega
    have kf : (0 : Int) ≤ f := HF0.out
    have hone := Lib.hid (of_one f)
    go_wp2_with fail
    refine (of_any A1 (ma - 1) (d - 1) LD _ CD.out HD1.out (by have := HLA.out; omega)).mono ?_
    rintro e w9 ⟨rfl, hw⟩
    obtain rfl := hw.symm
    have CO := Lib.hid (one_cl w2 f (by have := HFL.out; omega) (by have := HFM.out; omega) 3)
    go_wp2_with fail
    refine (of_any _ 1 1 [f] _ CO.out rfl (by decide)).mono ?_
    rintro e w9 ⟨rfl, hw⟩
    obtain rfl := hw.symm
    rw [hone.out]
    have kra : (a : Int) % 64 = (a64 : Int) := HRA.out
    have koo := HOO.out
    go_wp2_with fail
    have CD2 := Lib.hid (CD.out.below (al (Below.refl w2.heap.size w2) (Obj.cells #[.int .i64 f] 3)))
    have CL3 := Lib.hid (CL2.out.below (al (Below.refl w2.heap.size w2) (Obj.cells #[.int .i64 f] 3)))
    have B3 := Lib.hid (al B2.out (Obj.cells #[.int .i64 f] 3))
    clear CO CD CL2
    generalize w2.alloc (Obj.cells #[.int .i64 f] 3) = w3 at *
    refine (of_any A1 (ma - 1) (d - 1) LD _ CD2.out HD1.out (by have := HLA.out; omega)).mono ?_
    rintro e w9 ⟨rfl, hw⟩
    obtain rfl := hw.symm
    go_wp2_with fail
    refine (HCD.out _).mono ?_
    rintro e w4 ⟨rfl, b4⟩
    have B4 := Lib.hid (B3.out.trans (b4.mono B3.out.size))
    have CL4 := Lib.hid (CL3.out.below b4)
    clear b4
    go_wp2_with fail
    refine (HC1.out _).mono ?_
    rintro e w5 ⟨rfl, b5⟩
    have B5 := Lib.hid (B4.out.trans (b5.mono B4.out.size))
    have CL5 := Lib.hid (CL4.out.below b5)
    clear b5
    have kc : (((ma - 1 : Nat) : Int) != (ma : Int) - 1) = false := by rw [bne_eq_false_iff_eq]; omega
    have k1 := HLA.out
    obtain ⟨wz, hwz⟩ : ∃ wz, wz = w5 := ⟨_, rfl⟩
    subst hwz
    clear hsl
    have BW := B5
    clear B5
    go_wp2_with (at_builtin; refine wpList_append_or int_one _ rfl _ _ rfl wz.heap.size _ _ rfl (empty_or _ (Nat.le_refl _)) (some ad) ma d LA rfl HMAL.out.symm ?c1 ?c4 ?c2 (by decide) ?c3 ?_)
    case c1 => exact CL5.out.below (al (Below.refl _ _) _)
    case c2 => have := HLA.out; simp; omega
    case c3 => rw [World.size_alloc]; omega
    case c4 => exact HNL.out
    intro v5 w5 o5 s5
    have B5 := Lib.hid (BW.out.trans ((((Below.refl wz.heap.size wz).alloc (Nat.le_refl _) _).trans (s5.below (empty_or wz (Nat.le_refl _)) (by rw [World.size_alloc]; omega))).mono BW.out.size))
    have HZ5 := Lib.hid (show wz.heap.size ≤ w5.heap.size by have := s5.g.size; rw [World.size_alloc] at this; omega)
    have O5 := Lib.hid o5
    obtain ⟨A5, d5, rfl, -⟩ := o5.form
    rw [← HMAL.out] at O5 ⊢
    clear o5 s5
    go_wp2_with fail
    refine (HMB.out _).mono ?_
    rintro e w6 ⟨v6, rfl, o6, b6⟩
    have B6 := Lib.hid (B5.out.trans (b6.mono B5.out.size))
    have O6 := Lib.hid (O5.out.below b6)
    have HZ6 := Lib.hid (Nat.le_trans HZ5.out b6.size)
    obtain ⟨A6, d6, rfl, hcl, -, hnil6, -⟩ := o6.form
    have CL6 := Lib.hid hcl
    have HN6 := Lib.hid hnil6
    clear o6 b6 hcl hnil6
    rw [← HMBL.out]
    go_wp2_with (at_builtin; refine wpList_append_or int_one _ rfl _ _ rfl wz.heap.size _ LA rfl O6.out A6 mb d6 LB rfl HMBL.out.symm CL6.out ?e4 ?e2 (by decide) ?e3 ?_)
    case e2 => have := HLA.out; have := HLB.out; rw [← HMAL.out]; omega
    case e3 => exact HZ6.out
    case e4 => exact HN6.out
    intro v7 w7 o7 s7
    have B7 := Lib.hid (B6.out.trans ((s7.below O6.out HZ6.out).mono BW.out.size))
    obtain ⟨A7, d7, rfl, hcl, -⟩ := o7.form
    have CL7 := Lib.hid hcl
    clear o7 s7 hcl
    obtain ⟨n7, hn7⟩ : ∃ n7, n7 = (LA ++ LB).length := ⟨_, rfl⟩
    rw [← hn7]
    have HN7 := Lib.hid hn7
    have HNL7 := Lib.hid (show n7 ≤ 9223372036854775807 by have := HLA.out; have := HLB.out; rw [hn7, List.length_append, ← HMAL.out, ← HMBL.out]; omega)
    clear hn7
    go_wp2_with fail
    refine (of_any A7 n7 d7 (LA ++ LB) _ CL7.out HN7.out HNL7.out).mono ?_
    rintro e w9 ⟨rfl, hw⟩
    obtain rfl := hw.symm
    rw [HOB.out]
    have hr : (bits .or .u32 (a : Int) (b : Int)).tmod 64 = (ab64 : Int) := by rw [HB1.out, Int.tmod_eq_emod_of_nonneg (by omega)]; exact HR1.out
    go_wp2_with fail
    refine (HC1.out _).mono ?_
    rintro e w10 ⟨rfl, b10⟩
    have B10 := Lib.hid (B7.out.trans (b10.mono B7.out.size))
    clear b10
    go_wp2_with fail
    refine (HC2.out _).mono ?_
    rintro e w11 ⟨rfl, b11⟩
    have B11 := Lib.hid (B10.out.trans (b11.mono B10.out.size))
    clear b11
    go_wp2_with fail
    rw [HB1.out]
    refine (HC3.out _).mono ?_
    rintro e w12 ⟨rfl, b12⟩
    have B12 := Lib.hid (B11.out.trans (b12.mono B11.out.size))
    clear b12
    go_wp2_with fail
    rw [HB2.out]
    refine (HC4.out _).mono ?_
    rintro e w13 ⟨rfl, b13⟩
    have B13 := Lib.hid (B12.out.trans (b13.mono B12.out.size))
    clear b13
    have ks := HS.out
    have k3 := HS3.out
    have k4 := HS4.out
    have k1 := HLA.out
    have k2 := HLB.out
    have ke : ((ma : Int) + (mb : Int) == (mab : Int) + (maa : Int)) = true := by rw [beq_iff_eq]; omega
    have kw : wrap64 ((ma : Int) + (mb : Int)) = (ma : Int) + (mb : Int) := by unfold wrap64; omega
    clear ks
    go_wp2
    go_ret
    exact ⟨rfl, B13.out⟩
  · have hfn : f = -1 := by have := HFL.out; omega
    subst hfn
    clear hf
    go_enter Tryd.func8, Tryd.ntmps8
    go_wp2_with fail
    refine (fixed_any w HT.out).mono ?_
    rintro e w1 ⟨rfl, b1⟩
    have B1 := Lib.hid b1
    clear b1
    go_wp2_with fail
    refine (HM.out _).mono ?_
    rintro e w2 ⟨v2, rfl, o2, b2⟩
    obtain ⟨A, d, rfl, hcl, hle, hnil, -⟩ := o2.form
    rw [← HMAL.out] at hle
    have CL2 := Lib.hid hcl
    have HNL := Lib.hid hnil
    have HLE := Lib.hid hle
    have B2 := Lib.hid (B1.out.trans (b2.mono B1.out.size))
    clear o2 hcl hle hnil b2
    rw [← HMAL.out]
    go_wp2_with fail
    refine (HF.out _ (HT.out.below B2.out)).mono ?_
    rintro e w9 ⟨rfl, hw⟩
    obtain rfl := hw.symm
    have BW := B2
    clear B2
    go_wp2_with (at_builtin; refine wpList_append_or int_one _ rfl _ _ rfl w2.heap.size _ _ rfl (empty_or _ (Nat.le_refl _)) A ma d LA rfl HMAL.out.symm ?c1 ?c4 ?c2 (by decide) ?c3 ?_)
    case c1 => exact CL2.out.below (al (Below.refl _ _) _)
    case c2 => have := HLA.out; simp; omega
    case c3 => rw [World.size_alloc]; omega
    case c4 => exact HNL.out
    intro v5 w5 o5 s5
    have B5 := Lib.hid (BW.out.trans ((((Below.refl w2.heap.size w2).alloc (Nat.le_refl _) _).trans (s5.below (empty_or w2 (Nat.le_refl _)) (by rw [World.size_alloc]; omega))).mono BW.out.size))
    have HZ5 := Lib.hid (show w2.heap.size ≤ w5.heap.size by have := s5.g.size; rw [World.size_alloc] at this; omega)
    have O5 := Lib.hid o5
    obtain ⟨A5, d5, rfl, -⟩ := o5.form
    rw [← HMAL.out] at O5 ⊢
    clear o5 s5
    go_wp2_with fail
    refine (HMB.out _).mono ?_
    rintro e w6 ⟨v6, rfl, o6, b6⟩
    have B6 := Lib.hid (B5.out.trans (b6.mono B5.out.size))
    have O6 := Lib.hid (O5.out.below b6)
    have HZ6 := Lib.hid (Nat.le_trans HZ5.out b6.size)
    obtain ⟨A6, d6, rfl, hcl, -, hnil6, -⟩ := o6.form
    have CL6 := Lib.hid hcl
    have HN6 := Lib.hid hnil6
    clear o6 b6 hcl hnil6
    rw [← HMBL.out]
    go_wp2_with (at_builtin; refine wpList_append_or int_one _ rfl _ _ rfl w2.heap.size _ LA rfl O6.out A6 mb d6 LB rfl HMBL.out.symm CL6.out ?e4 ?e2 (by decide) ?e3 ?_)
    case e2 => have := HLA.out; have := HLB.out; rw [← HMAL.out]; omega
    case e3 => exact HZ6.out
    case e4 => exact HN6.out
    intro v7 w7 o7 s7
    have B7 := Lib.hid (B6.out.trans ((s7.below O6.out HZ6.out).mono BW.out.size))
    obtain ⟨A7, d7, rfl, hcl, -⟩ := o7.form
    have CL7 := Lib.hid hcl
    clear o7 s7 hcl
    obtain ⟨n7, hn7⟩ : ∃ n7, n7 = (LA ++ LB).length := ⟨_, rfl⟩
    rw [← hn7]
    have HN7 := Lib.hid hn7
    have HNL7 := Lib.hid (show n7 ≤ 9223372036854775807 by have := HLA.out; have := HLB.out; rw [hn7, List.length_append, ← HMAL.out, ← HMBL.out]; omega)
    clear hn7
    go_wp2_with fail
    refine (of_any A7 n7 d7 (LA ++ LB) _ CL7.out HN7.out HNL7.out).mono ?_
    rintro e w9 ⟨rfl, hw⟩
    obtain rfl := hw.symm
    rw [HOB.out]
    have hr : (bits .or .u32 (a : Int) (b : Int)).tmod 64 = (ab64 : Int) := by rw [HB1.out, Int.tmod_eq_emod_of_nonneg (by omega)]; exact HR1.out
    go_wp2_with fail
    refine (HC1.out _).mono ?_
    rintro e w10 ⟨rfl, b10⟩
    have B10 := Lib.hid (B7.out.trans (b10.mono B7.out.size))
    clear b10
    go_wp2_with fail
    refine (HC2.out _).mono ?_
    rintro e w11 ⟨rfl, b11⟩
    have B11 := Lib.hid (B10.out.trans (b11.mono B10.out.size))
    clear b11
    go_wp2_with fail
    rw [HB1.out]
    refine (HC3.out _).mono ?_
    rintro e w12 ⟨rfl, b12⟩
    have B12 := Lib.hid (B11.out.trans (b12.mono B11.out.size))
    clear b12
    go_wp2_with fail
    rw [HB2.out]
    refine (HC4.out _).mono ?_
    rintro e w13 ⟨rfl, b13⟩
    have B13 := Lib.hid (B12.out.trans (b13.mono B12.out.size))
    clear b13
    have ks := HS.out
    have k3 := HS3.out
    have k4 := HS4.out
    have k1 := HLA.out
    have k2 := HLB.out
    have ke : ((ma : Int) + (mb : Int) == (mab : Int) + (maa : Int)) = true := by rw [beq_iff_eq]; omega
    have kw : wrap64 ((ma : Int) + (mb : Int)) = (ma : Int) + (mb : Int) := by unfold wrap64; omega
    clear ks
    go_wp2
    go_ret
    exact ⟨rfl, B13.out⟩
theorem walkI (a b : Int) (w : World) (wa : (Lit.int .u32 a).wf = true) (wb : (Lit.int .u32 b).wf = true) (hT : Tz w) :
    Calls Tryd.prog 8 #[.int .u32 a, .int .u32 b] w fun e w' => e = .returned (.bool true) ∧ Below w.heap.size w w' := by
  obtain ⟨a, rfl, ha⟩ := u32_nat wa
  obtain ⟨b, rfl, hb⟩ := u32_nat wb
  exact walk a b w ha hb hT
set_option maxRecDepth 100000 in
/-- What the walk gives, for every argument and every world. -/
theorem contract (H : Type) (enc : TypeId × Value → H) (W : World) (base : Nat) (args : Array Value) (ds gs : List (DataW H)) (before : List MemPlace)
    (hval : ∀ (j : Nat) t v, Tryd.f8.params[j]? = some t → args[j]? = some v → Value.okWide Tryd.prog W .any base t v)
    (hW : DataW.Whole enc Tryd.prog Tryd.f8.params.toList Rows.crewSplitsSpec.vars false W args.toList ds gs before) (hL : laidMetH Tryd.prog Rows.crewSplitsRow.laid W) : 
    Calls Tryd.prog 8 args W fun e W' => ∃ v, e = .returned v ∧ Rows.crewSplitsSpec.post enc Tryd.prog Tryd.f8 false true false false W args v W' := by
  have hW' := hW
  obtain ⟨p, q, hA0, hV, rfl, hfz, hnd⟩ := hW
  have hA : DataW.TrodAll enc Tryd.prog W 0 (fun _ => true) true Tryd.f8.params.toList args.toList ds p := hA0
  rw [Tryd.params8] at hA hval
  obtain ⟨v0, vs0, d0, ds0, p0, q0, hargs, rfl, rfl, h0, r0⟩ := trodAll_cons hA
  obtain ⟨v1, vs1, d1, ds1, p1, q1, rfl, rfl, rfl, h1, r1⟩ := trodAll_cons r0
  obtain ⟨rfl, rfl, rfl⟩ := trodAll_nil r1
  obtain rfl : args = #[v0, v1] := by cases args; simp_all
  obtain ⟨rfl, rfl⟩ := trodVars_none hV
  obtain ⟨a, rfl, rfl, rfl, w0⟩ := open_int Tryd.underlying22 (hval 0 22 v0 rfl rfl) h0
  obtain ⟨b, rfl, rfl, rfl, w1⟩ := open_int Tryd.underlying22 (hval 1 22 v1 rfl rfl) h1
  refine (walkI a b W w0 w1 (tz_of hL)).mono fun e W' ⟨he, hb⟩ => ?_
  exact ⟨_, he, Shell.post_law laidOut (by kernel_rfl) rfl Tryd.underlying4 rfl hW' rfl hb⟩
theorem reads (os : Os) {H : Type} (enc : TypeId × Value → H) : ∃ places, DataW.whole enc Tryd.prog ((laidWorld os).forCall (fun _ _ => 0) ⟨#[], #[.int .u32 0, .int .u32 0], []⟩).memory Tryd.f8.params.toList Rows.crewSplitsSpec.vars false (#[Value.int .u32 0, Value.int .u32 0]).toList 8 = some ([.lit (.int .u32 0), .lit (.int .u32 0)], [], places) :=
  ⟨[], by kernel_rfl⟩
set_option maxRecDepth 100000 in
theorem lifted (os : Os) (started : os.Started) (H : Type) (enc : TypeId × Value → H) (F : Stop.Interp) :
    ReturnsInHanded {} Tryd.checked os 8 .any ((OpenSpec.ofChange Rows.crewSplitsSpec).preRow enc Tryd.prog Tryd.f8 Rows.crewSplitsRow.domain false Rows.crewSplitsRow.laid) (((OpenSpec.ofChange Rows.crewSplitsSpec).at F).post enc Tryd.prog Tryd.f8 false true false false) := by
  obtain ⟨places, hx⟩ := reads os enc
  refine returnsInHanded_of_row (C := Tryd.checked) (s := OpenSpec.ofChange Rows.crewSplitsSpec) own started (by kernel_rfl) Tryd.func8
    (witness_row_atRef (enc := enc) (C := Tryd.checked) false (laidWorld os) #[.int .u32 0, .int .u32 0] rfl (by kernel_rfl) (by kernel_rfl) (by kernel_rfl)
      (OpenSpec.preRow_of_cond 8 hx (by kernel_rfl) (fun k hk => by cases hk) (by kernel_rfl) (laid_met os _))) ?_
  intro W base args ds gs before hval hW _ _ _ hL _ _
  exact contract H enc W base args ds gs before hval hW hL
theorem said : Rows.CrewSplitsSaid :=
  OpenClaim.holds_of_cond 8 Tryd.f8 rfl rfl rfl rfl rfl rfl rfl ⟨rfl, rfl, rfl, rfl, rfl⟩ rfl rfl rfl rfl rfl (by kernel_rfl) Tryd.func8 (by kernel_rfl)
    (of_decide_eq_true (by kernel_rfl)) (by unfold Func.isWrapper; first | (rw [if_pos (by decide +kernel)]; kernel_rfl) | (rw [if_neg (by decide +kernel)]; exact ⟨rfl, rfl⟩))
    (fun os started H enc _ F => by rw [OpenClaim.pre_eq_preRow]; exact lifted os started H enc F)
theorem plain (f : FuncId) (fn : Func) (hf : Tryd.pinned.checked.prog.funcNamed "tocsin/tocsinlaw07.CrewSplits" = some f) (hfn : Tryd.pinned.checked.prog.funcs[f]? = some fn) :
    false = Tryd.pinned.checked.prog.looks [] ∧ ∀ (j : Nat) t, fn.params[j]? = some t → Tryd.pinned.checked.prog.wantsStandIn t = false := by
  obtain rfl : f = 8 := Option.some.inj ((show Tryd.prog.funcNamed "tocsin/tocsinlaw07.CrewSplits" = some 8 by kernel_rfl).symm.trans hf) |>.symm
  obtain rfl : fn = Tryd.f8 := (Option.some.inj (Tryd.func8.symm.trans hfn)).symm
  refine ⟨by kernel_rfl, fun j t ht => ?_⟩
  rw [Tryd.params8] at ht
  have hall : ∀ t ∈ Tryd.f8.params.toList, Tryd.prog.wantsStandIn t = false := by
    rw [Tryd.params8]
    have h : ((#[22, 22] : Array TypeId).toList.all fun t => !Tryd.prog.wantsStandIn t) = true := by kernel_rfl
    intro t ht
    simpa using (List.all_eq_true.1 h) t ht
  exact hall t (by rw [Tryd.params8]; exact Array.mem_toList_iff.2 (Array.mem_of_getElem? ht))
theorem card : Rows.CrewSplitsCardSaid :=
  Claim7.holds_tied_plain_at .later [] _ _ _ _ said (fun _ h => by cases h) (by kernel_rfl) (fun _ h => by cases h) crewSplits_row_tie rfl ⟨rfl, rfl⟩ (by kernel_rfl) rfl plain (by kernel_rfl)
end Go.Proofs.YtdkmblebkgffgaaDoor.CrewW.CrewSplits
