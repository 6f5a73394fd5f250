/- tocsinlaw07.CrewTells answers true at every input: members, count, first and has of any number are those of its six lowest bits. Condition: the table deBruijn32tab of math/bits is as its initialiser lays it (tied by the card). -/
import Derived.Test.YtdkmblebkgffgaaDoorCrewLay
namespace Go.Proofs.YtdkmblebkgffgaaDoor.CrewW.CrewTells
open Go.ChangeShapes Go.WideShapes Go.ChangeAt Go.RowKit Shell
theorem add_0 (a : Addr) : a.add 0 = a := by
  unfold Addr.add
  split <;> simp_all
theorem fst_nil {c : Nat} (h : mem c = []) : fst c = -1 := by unfold fst; rw [h]; rfl
theorem fst_head {c : Nat} (h : 0 < (mem c).length) : (mem c)[0]? = some (fst c) := by
  unfold fst
  rcases hm : mem c with _ | ⟨x, l⟩
  · rw [hm] at h; simp at h
  · rfl
set_option maxHeartbeats 8000000 in
theorem walk (c : Nat) (h : Int) (w : World) (hc : c < 4294967296) (hT : Tz w) :
    Calls Tryd.prog 3 #[.int .u32 (c : Int), .int .i64 h] w fun e w' => e = .returned (.bool true) ∧ Below w.heap.size w w' := by
  have HT := Lib.hid hT
  have HC := Lib.hid hc
  have HOF := Lib.hid (of_mem c)
  have HL6 := Lib.hid (mem_len c)
  have HCnt := Lib.hid (fun W => count_any c W hc)
  have HM := Lib.hid (fun W => members_any c W hc)
  have HR := Lib.hid (fun W => refMembers_any c W hc)
  have HF := Lib.hid (fun W k => first_any c W hc k)
  have hf0 := fst_nil (c := c)
  have hf1 := fst_head (c := c)
  have HH1 := Lib.hid (fun W => has_any c h W hc)
  have HH2 := Lib.hid (fun W => refHas_any c h W hc)
  have HR64 := Lib.hid (show (c : Int) % 64 = ((c % 64 : Nat) : Int) by omega)
  clear hT hc
  generalize c % 64 = r at *
  generalize has c h = hb at *
  generalize fst c = f at *
  generalize mem c = L at *
  by_cases hz : L = []
  · have hf := hf0 hz
    subst hf
    subst hz
    clear hf0 hf1
    go_enter Tryd.func3, Tryd.ntmps3
    go_wp2_with fail
    refine (fixed_any w HT.out).mono ?_
    rintro e w1 ⟨rfl, b1⟩
    have B1 := Lib.hid b1
    clear b1
    go_wp2_with fail
    refine (HR.out _).mono ?_
    rintro e w2 ⟨v2, rfl, o2, b2⟩
    obtain ⟨A, d, rfl, hcl, -⟩ := o2.form
    have CL2 := Lib.hid hcl
    have B2 := Lib.hid (B1.out.trans (b2.mono B1.out.size))
    clear o2 hcl b2
    rw [List.length_nil]
    go_wp2_with fail
    refine (HM.out _).mono ?_
    rintro e w3 ⟨v3, rfl, o3, b3⟩
    obtain ⟨A3, d3, rfl, hcl, -⟩ := o3.form
    have CL3 := Lib.hid hcl
    have CL4 := Lib.hid (CL2.out.below b3)
    have B3 := Lib.hid (B2.out.trans (b3.mono B2.out.size))
    clear o3 hcl b3
    rw [List.length_nil]
    go_wp2_with fail
    refine (same_any _ _ 0 _ _ [] _ CL3.out CL4.out rfl (by decide)).mono ?_
    rintro e w4 ⟨rfl, b4⟩
    have B4 := Lib.hid (B3.out.trans (b4.mono B3.out.size))
    have CL5 := Lib.hid (CL4.out.below b4)
    clear b4
    go_wp2_with fail
    refine (HCnt.out _).mono ?_
    rintro e w5 ⟨rfl, b5⟩
    have B5 := Lib.hid (B4.out.trans (b5.mono B4.out.size))
    have CL6 := Lib.hid (CL5.out.below b5)
    clear b5
    go_wp2_with fail
    refine (HF.out _ (HT.out.below B5.out)).mono ?_
    rintro e w9 ⟨rfl, hw⟩
    obtain rfl := hw.symm
    go_wp2_with fail
    refine (HH1.out _).mono ?_
    rintro e w9 ⟨rfl, hw⟩
    obtain rfl := hw.symm
    go_wp2_with fail
    refine (HH2.out _).mono ?_
    rintro e w9 ⟨rfl, hw⟩
    obtain rfl := hw.symm
    go_wp2_with fail
    refine (of_any A 0 d [] _ CL6.out rfl (by decide)).mono ?_
    rintro e w9 ⟨rfl, hw⟩
    obtain rfl := hw.symm
    rw [HOF.out]
    go_wp2
    rw [HR64.out]
    go_ret
    exact ⟨congrArg (fun z => Ending.returned (.bool z)) (beq_self_eq_true _), B5.out⟩
  · have hm0 := List.length_pos_iff.2 hz
    have HF1 := Lib.hid (hf1 hm0)
    obtain ⟨m, hm⟩ : ∃ m, m = L.length := ⟨_, rfl⟩
    have kt : decide ((0 : Int) < (m : Int)) = true := by rw [decide_eq_true_eq]; omega
    have kt2 : decide (0 < m) = true := by rw [decide_eq_true_eq]; omega
    have HMM := Lib.hid hm
    rw [← hm] at HCnt HL6
    have hmp : (0 : Int) < (m : Int) := by omega
    clear hf0 hf1 hm0 hz hm
    go_enter Tryd.func3, Tryd.ntmps3
    go_wp2_with fail
    refine (fixed_any w HT.out).mono ?_
    rintro e w1 ⟨rfl, b1⟩
    have B1 := Lib.hid b1
    clear b1
    go_wp2_with fail
    refine (HR.out _).mono ?_
    rintro e w2 ⟨v2, rfl, o2, b2⟩
    obtain ⟨A, d, rfl, hcl, -⟩ := o2.form
    have CL2 := Lib.hid hcl
    have B2 := Lib.hid (B1.out.trans (b2.mono B1.out.size))
    clear o2 hcl b2
    rw [← HMM.out]
    obtain ⟨ad, rfl, hcell, -⟩ := CL2.out 0 f HF1.out
    rw [add_0] at hcell
    go_wp2_with fail
    refine (HM.out _).mono ?_
    rintro e w3 ⟨v3, rfl, o3, b3⟩
    obtain ⟨A3, d3, rfl, hcl, -⟩ := o3.form
    have CL3 := Lib.hid hcl
    have CL4 := Lib.hid (CL2.out.below b3)
    have B3 := Lib.hid (B2.out.trans (b3.mono B2.out.size))
    clear o3 hcl b3
    rw [← HMM.out]
    go_wp2_with fail
    refine (same_any _ _ m _ _ L _ CL3.out CL4.out HMM.out (by have := HL6.out; omega)).mono ?_
    rintro e w4 ⟨rfl, b4⟩
    have B4 := Lib.hid (B3.out.trans (b4.mono B3.out.size))
    have CL5 := Lib.hid (CL4.out.below b4)
    clear b4
    go_wp2_with fail
    refine (HCnt.out _).mono ?_
    rintro e w5 ⟨rfl, b5⟩
    have B5 := Lib.hid (B4.out.trans (b5.mono B4.out.size))
    have CL6 := Lib.hid (CL5.out.below b5)
    clear b5
    go_wp2_with fail
    refine (HF.out _ (HT.out.below B5.out)).mono ?_
    rintro e w9 ⟨rfl, hw⟩
    obtain rfl := hw.symm
    go_wp2_with fail
    refine (HH1.out _).mono ?_
    rintro e w9 ⟨rfl, hw⟩
    obtain rfl := hw.symm
    go_wp2_with fail
    refine (HH2.out _).mono ?_
    rintro e w9 ⟨rfl, hw⟩
    obtain rfl := hw.symm
    go_wp2_with fail
    refine (of_any (some ad) m d L _ CL6.out HMM.out (by have := HL6.out; omega)).mono ?_
    rintro e w9 ⟨rfl, hw⟩
    obtain rfl := hw.symm
    rw [HOF.out]
    go_wp2
    rw [HR64.out]
    go_ret
    exact ⟨congrArg (fun z => Ending.returned (.bool z)) (beq_self_eq_true _), B5.out⟩
theorem walkI (c h : Int) (w : World) (wc : (Lit.int .u32 c).wf = true) (hT : Tz w) :
    Calls Tryd.prog 3 #[.int .u32 c, .int .i64 h] w fun e w' => e = .returned (.bool true) ∧ Below w.heap.size w w' := by
  obtain ⟨c, rfl, hc⟩ := u32_nat wc
  exact walk c h w hc hT
set_option maxRecDepth 100000 in
/-- What the walk gives, for every argument and every world. -/
theorem contract (H : Type) (enc : TypeId × Value → H) (W : World) (base : Nat) (args : Array Value) (ds gs : List (DataW H)) (before : List MemPlace)
    (hval : ∀ (j : Nat) t v, Tryd.f3.params[j]? = some t → args[j]? = some v → Value.okWide Tryd.prog W .any base t v)
    (hW : DataW.Whole enc Tryd.prog Tryd.f3.params.toList Rows.crewTellsSpec.vars false W args.toList ds gs before) (hL : laidMetH Tryd.prog Rows.crewTellsRow.laid W) : 
    Calls Tryd.prog 3 args W fun e W' => ∃ v, e = .returned v ∧ Rows.crewTellsSpec.post enc Tryd.prog Tryd.f3 false true false false W args v W' := by
  have hW' := hW
  obtain ⟨p, q, hA0, hV, rfl, hfz, hnd⟩ := hW
  have hA : DataW.TrodAll enc Tryd.prog W 0 (fun _ => true) true Tryd.f3.params.toList args.toList ds p := hA0
  rw [Tryd.params3] at hA hval
  obtain ⟨v0, vs0, d0, ds0, p0, q0, hargs, rfl, rfl, h0, r0⟩ := trodAll_cons hA
  obtain ⟨v1, vs1, d1, ds1, p1, q1, rfl, rfl, rfl, h1, r1⟩ := trodAll_cons r0
  obtain ⟨rfl, rfl, rfl⟩ := trodAll_nil r1
  obtain rfl : args = #[v0, v1] := by cases args; simp_all
  obtain ⟨rfl, rfl⟩ := trodVars_none hV
  obtain ⟨c, rfl, rfl, rfl, w0⟩ := open_int Tryd.underlying22 (hval 0 22 v0 rfl rfl) h0
  obtain ⟨h, rfl, rfl, rfl, w1⟩ := open_int Tryd.underlying3 (hval 1 3 v1 rfl rfl) h1
  refine (walkI c h W w0 (tz_of hL)).mono fun e W' ⟨he, hb⟩ => ?_
  exact ⟨_, he, Shell.post_law laidOut (by kernel_rfl) rfl Tryd.underlying4 rfl hW' rfl hb⟩
theorem reads (os : Os) {H : Type} (enc : TypeId × Value → H) : ∃ places, DataW.whole enc Tryd.prog ((laidWorld os).forCall (fun _ _ => 0) ⟨#[], #[.int .u32 0, .int .i64 0], []⟩).memory Tryd.f3.params.toList Rows.crewTellsSpec.vars false (#[Value.int .u32 0, Value.int .i64 0]).toList 8 = some ([.lit (.int .u32 0), .lit (.int .i64 0)], [], places) :=
  ⟨[], by kernel_rfl⟩
set_option maxRecDepth 100000 in
theorem lifted (os : Os) (started : os.Started) (H : Type) (enc : TypeId × Value → H) (F : Stop.Interp) :
    ReturnsInHanded {} Tryd.checked os 3 .any ((OpenSpec.ofChange Rows.crewTellsSpec).preRow enc Tryd.prog Tryd.f3 Rows.crewTellsRow.domain false Rows.crewTellsRow.laid) (((OpenSpec.ofChange Rows.crewTellsSpec).at F).post enc Tryd.prog Tryd.f3 false true false false) := by
  obtain ⟨places, hx⟩ := reads os enc
  refine returnsInHanded_of_row (C := Tryd.checked) (s := OpenSpec.ofChange Rows.crewTellsSpec) own started (by kernel_rfl) Tryd.func3
    (witness_row_atRef (enc := enc) (C := Tryd.checked) false (laidWorld os) #[.int .u32 0, .int .i64 0] rfl (by kernel_rfl) (by kernel_rfl) (by kernel_rfl)
      (OpenSpec.preRow_of_cond 8 hx (by kernel_rfl) (fun k hk => by cases hk) (by kernel_rfl) (laid_met os _))) ?_
  intro W base args ds gs before hval hW _ _ _ hL _ _
  exact contract H enc W base args ds gs before hval hW hL
theorem said : Rows.CrewTellsSaid :=
  OpenClaim.holds_of_cond 3 Tryd.f3 rfl rfl rfl rfl rfl rfl rfl ⟨rfl, rfl, rfl, rfl, rfl⟩ rfl rfl rfl rfl rfl (by kernel_rfl) Tryd.func3 (by kernel_rfl)
    (of_decide_eq_true (by kernel_rfl)) (by unfold Func.isWrapper; first | (rw [if_pos (by decide +kernel)]; kernel_rfl) | (rw [if_neg (by decide +kernel)]; exact ⟨rfl, rfl⟩))
    (fun os started H enc _ F => by rw [OpenClaim.pre_eq_preRow]; exact lifted os started H enc F)
theorem plain (f : FuncId) (fn : Func) (hf : Tryd.pinned.checked.prog.funcNamed "tocsin/tocsinlaw07.CrewTells" = some f) (hfn : Tryd.pinned.checked.prog.funcs[f]? = some fn) :
    false = Tryd.pinned.checked.prog.looks [] ∧ ∀ (j : Nat) t, fn.params[j]? = some t → Tryd.pinned.checked.prog.wantsStandIn t = false := by
  obtain rfl : f = 3 := Option.some.inj ((show Tryd.prog.funcNamed "tocsin/tocsinlaw07.CrewTells" = some 3 by kernel_rfl).symm.trans hf) |>.symm
  obtain rfl : fn = Tryd.f3 := (Option.some.inj (Tryd.func3.symm.trans hfn)).symm
  refine ⟨by kernel_rfl, fun j t ht => ?_⟩
  rw [Tryd.params3] at ht
  have hall : ∀ t ∈ Tryd.f3.params.toList, Tryd.prog.wantsStandIn t = false := by
    rw [Tryd.params3]
    have h : ((#[22, 3] : Array TypeId).toList.all fun t => !Tryd.prog.wantsStandIn t) = true := by kernel_rfl
    intro t ht
    simpa using (List.all_eq_true.1 h) t ht
  exact hall t (by rw [Tryd.params3]; exact Array.mem_toList_iff.2 (Array.mem_of_getElem? ht))
theorem card : Rows.CrewTellsCardSaid :=
  Claim7.holds_tied_plain_at .later [] _ _ _ _ said (fun _ h => by cases h) (by kernel_rfl) (fun _ h => by cases h) crewTells_row_tie rfl ⟨rfl, rfl⟩ (by kernel_rfl) rfl plain (by kernel_rfl)
end Go.Proofs.YtdkmblebkgffgaaDoor.CrewW.CrewTells
