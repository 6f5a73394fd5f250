/- tocsinlaw07.CrewWithins answers true at every input: one crew is within another just where each of its hosts is. Condition: the library's table deBruijn32tab is as its initialiser lays it (tied by the card). -/
import Derived.Test.YtdkmblebkgffgaaDoorCrewLay
namespace Go.Proofs.YtdkmblebkgffgaaDoor.CrewW.CrewWithins
open Go.ChangeShapes Go.WideShapes Go.ChangeAt Go.RowKit Shell
theorem all_take {l : List Int} {p : Int → Bool} {k : Nat} {x : Int} (h : l[k]? = some x) : (l.take (k + 1)).all p = ((l.take k).all p && p x) := by
  rw [List.take_add_one, h, List.all_append]
  simp
set_option maxHeartbeats 8000000 in
theorem walk (a b : Nat) (w : World) (ha : a < 4294967296) (hb : b < 4294967296) (hT : Tz w) :
    Calls Tryd.prog 7 #[.int .u32 (a : Int), .int .u32 (b : Int)] w fun e w' => e = .returned (.bool true) ∧ Below w.heap.size w w' := by
  have HT := Lib.hid hT
  have HM := Lib.hid (fun W => refMembers_any a W ha)
  have HL6 := Lib.hid (mem_len a)
  have HW1 := Lib.hid (fun W => within_any a b W ha hb)
  have l1 : a ||| b < 2 ^ 32 := Nat.or_lt_two_pow (by omega) (by omega)
  have l2 : a &&& b < 2 ^ 32 := Nat.and_lt_two_pow _ (by omega)
  have HW2 := Lib.hid (fun W => within_any a (a ||| b) W ha (by omega))
  have HW3 := Lib.hid (fun W => within_any (a &&& b) a W (by omega) ha)
  rw [wi_or] at HW2
  rw [wi_both] at HW3
  have HB1 := Lib.hid (u32_or_nat a b ha hb)
  have HB2 := Lib.hid (u32_and_nat a b ha hb)
  have HC1 := Lib.hid (fun W => count_any a W ha)
  have HC2 := Lib.hid (fun W => count_any b W hb)
  have HH := Lib.hid (fun (x : Int) W => refHas_any b x W hb)
  have HLE := Lib.hid (wi_len (a := a) (b := b))
  have HALL := Lib.hid (show (mem a).all (fun h => has b h) = wi a b from rfl)
  obtain ⟨p, hp⟩ : ∃ p : Int → Bool, p = fun h => has b h := ⟨_, rfl⟩
  have HH2 := Lib.hid (show ∀ (x : Int) (W : World), Calls Tryd.prog 16 #[.int .u32 (b : Int), .int .i64 x] W fun e w' => e = .returned (.bool (p x)) ∧ w' = W by rw [hp]; exact HH.out)
  rw [← hp] at HALL
  clear l1 l2 ha hb hT hp HH
  generalize (mem b).length = m2 at *
  obtain ⟨m, hm⟩ : ∃ m, m = (mem a).length := ⟨_, rfl⟩
  rw [← hm] at HL6 HC1 HLE
  have HMM := Lib.hid hm
  clear hm
  generalize mem a = L at *
  generalize a ||| b = ao at *
  generalize a &&& b = aa at *
  generalize wi a b = q at *
  go_enter Tryd.func7, Tryd.ntmps7
  go_wp2_with fail
  refine (fixed_any w HT.out).mono ?_
  rintro e w1 ⟨rfl, b1⟩
  have B1 := Lib.hid b1
  clear b1
  go_wp2_with fail
  refine (HM.out _).mono ?_
  rintro e w2 ⟨v2, rfl, o2, b2⟩
  obtain ⟨A, k, rfl, hcl, -⟩ := o2.form
  have CL2 := Lib.hid hcl
  have B2 := Lib.hid (B1.out.trans (b2.mono B1.out.size))
  clear o2 hcl b2
  rw [← HMM.out]
  go_wp2
  go_loopw [5, 13] (fun cv iv wr => ∃ (i : Nat), i ≤ m ∧ iv = .int .i64 i ∧ cv = .bool ((L.take i).all p) ∧ wr = w2) (fun _ iv _ => m - (intOf iv).toNat)
  case atStart => exact ⟨0, Nat.zero_le _, rfl, rfl, rfl⟩
  case round =>
    obtain ⟨i, hi, rfl, rfl, rfl⟩ := hrel
    have hl6 := HL6.out
    by_cases hlt : i < m
    · obtain ⟨x, hx⟩ : ∃ x, L[i]? = some x := ⟨_, List.getElem?_eq_getElem (by rw [← HMM.out]; exact hlt)⟩
      obtain ⟨ad, rfl, hcell, _⟩ := CL2.out i x hx
      have HA := Lib.hid (all_take (p := p) hx)
      have HX := Lib.hid (HH2.out x)
      clear hx
      generalize (L.take i).all p = g at *
      cases g
      · have HA2 := Lib.hid (HA.out.trans (Bool.false_and _))
        clear HA
        go_wp2
        go_roundw
        case rel => exact ⟨i + 1, by omega, by go_num, by rw [HA2.out], trivial⟩
        case measure => simp [intOf]; omega
      · have HA2 := Lib.hid (HA.out.trans (Bool.true_and _))
        clear HA
        generalize p x = y at *
        go_wp2_with fail
        refine (HX.out _).mono ?_
        rintro e w9 ⟨rfl, hw⟩
        obtain rfl := hw.symm
        go_wp2
        go_roundw
        case rel => exact ⟨i + 1, by omega, by go_num, by rw [HA2.out], trivial⟩
        case measure => simp [intOf]; omega
    · obtain rfl : i = m := by omega
      have e := HMM.out
      rw [List.take_of_length_le (by omega), HALL.out]
      clear e
      cases q
      · go_wp2_with fail
        refine (HW1.out _).mono ?_
        rintro e w9 ⟨rfl, hw⟩
        obtain rfl := hw.symm
        go_wp2_with fail
        rw [HB1.out]
        refine (HW2.out _).mono ?_
        rintro e w9 ⟨rfl, hw⟩
        obtain rfl := hw.symm
        go_wp2_with fail
        rw [HB2.out]
        refine (HW3.out _).mono ?_
        rintro e w9 ⟨rfl, hw⟩
        obtain rfl := hw.symm
        go_wp2
        go_ret
        exact ⟨rfl, B2.out⟩
      · have hle : (i : Int) ≤ (m2 : Int) := by have := HLE.out rfl; omega
        have HLI := Lib.hid hle
        clear hle
        go_wp2_with fail
        refine (HW1.out _).mono ?_
        rintro e w9 ⟨rfl, hw⟩
        obtain rfl := hw.symm
        go_wp2_with fail
        rw [HB1.out]
        refine (HW2.out _).mono ?_
        rintro e w9 ⟨rfl, hw⟩
        obtain rfl := hw.symm
        go_wp2_with fail
        rw [HB2.out]
        refine (HW3.out _).mono ?_
        rintro e w9 ⟨rfl, hw⟩
        obtain rfl := hw.symm
        go_wp2_with fail
        refine (HC1.out _).mono ?_
        rintro e w4 ⟨rfl, b4⟩
        have B4 := Lib.hid (B2.out.trans (b4.mono B2.out.size))
        clear b4
        go_wp2_with fail
        refine (HC2.out _).mono ?_
        rintro e w5 ⟨rfl, b5⟩
        have B5 := Lib.hid (B4.out.trans (b5.mono B4.out.size))
        clear b5
        have hle := HLI.out
        go_wp2
        go_ret
        exact ⟨rfl, B5.out⟩
theorem walkI (a b : Int) (w : World) (wa : (Lit.int .u32 a).wf = true) (wb : (Lit.int .u32 b).wf = true) (hT : Tz w) :
    Calls Tryd.prog 7 #[.int .u32 a, .int .u32 b] w fun e w' => e = .returned (.bool true) ∧ Below w.heap.size w w' := by
  obtain ⟨a, rfl, ha⟩ := u32_nat wa
  obtain ⟨b, rfl, hb⟩ := u32_nat wb
  exact walk a b w ha hb hT
set_option maxRecDepth 100000 in
/-- What the walk gives, for every argument and every world. -/
theorem contract (H : Type) (enc : TypeId × Value → H) (W : World) (base : Nat) (args : Array Value) (ds gs : List (DataW H)) (before : List MemPlace)
    (hval : ∀ (j : Nat) t v, Tryd.f7.params[j]? = some t → args[j]? = some v → Value.okWide Tryd.prog W .any base t v)
    (hW : DataW.Whole enc Tryd.prog Tryd.f7.params.toList Rows.crewWithinsSpec.vars false W args.toList ds gs before) (hL : laidMetH Tryd.prog Rows.crewWithinsRow.laid W) : 
    Calls Tryd.prog 7 args W fun e W' => ∃ v, e = .returned v ∧ Rows.crewWithinsSpec.post enc Tryd.prog Tryd.f7 false true false false W args v W' := by
  have hW' := hW
  obtain ⟨p, q, hA0, hV, rfl, hfz, hnd⟩ := hW
  have hA : DataW.TrodAll enc Tryd.prog W 0 (fun _ => true) true Tryd.f7.params.toList args.toList ds p := hA0
  rw [Tryd.params7] at hA hval
  obtain ⟨v0, vs0, d0, ds0, p0, q0, hargs, rfl, rfl, h0, r0⟩ := trodAll_cons hA
  obtain ⟨v1, vs1, d1, ds1, p1, q1, rfl, rfl, rfl, h1, r1⟩ := trodAll_cons r0
  obtain ⟨rfl, rfl, rfl⟩ := trodAll_nil r1
  obtain rfl : args = #[v0, v1] := by cases args; simp_all
  obtain ⟨rfl, rfl⟩ := trodVars_none hV
  obtain ⟨a, rfl, rfl, rfl, w0⟩ := open_int Tryd.underlying22 (hval 0 22 v0 rfl rfl) h0
  obtain ⟨b, rfl, rfl, rfl, w1⟩ := open_int Tryd.underlying22 (hval 1 22 v1 rfl rfl) h1
  refine (walkI a b W w0 w1 (tz_of hL)).mono fun e W' ⟨he, hb⟩ => ?_
  exact ⟨_, he, Shell.post_law laidOut (by kernel_rfl) rfl Tryd.underlying4 rfl hW' rfl hb⟩
theorem reads (os : Os) {H : Type} (enc : TypeId × Value → H) : ∃ places, DataW.whole enc Tryd.prog ((laidWorld os).forCall (fun _ _ => 0) ⟨#[], #[.int .u32 0, .int .u32 0], []⟩).memory Tryd.f7.params.toList Rows.crewWithinsSpec.vars false (#[Value.int .u32 0, Value.int .u32 0]).toList 8 = some ([.lit (.int .u32 0), .lit (.int .u32 0)], [], places) :=
  ⟨[], by kernel_rfl⟩
set_option maxRecDepth 100000 in
theorem lifted (os : Os) (started : os.Started) (H : Type) (enc : TypeId × Value → H) (F : Stop.Interp) :
    ReturnsInHanded {} Tryd.checked os 7 .any ((OpenSpec.ofChange Rows.crewWithinsSpec).preRow enc Tryd.prog Tryd.f7 Rows.crewWithinsRow.domain false Rows.crewWithinsRow.laid) (((OpenSpec.ofChange Rows.crewWithinsSpec).at F).post enc Tryd.prog Tryd.f7 false true false false) := by
  obtain ⟨places, hx⟩ := reads os enc
  refine returnsInHanded_of_row (C := Tryd.checked) (s := OpenSpec.ofChange Rows.crewWithinsSpec) own started (by kernel_rfl) Tryd.func7
    (witness_row_atRef (enc := enc) (C := Tryd.checked) false (laidWorld os) #[.int .u32 0, .int .u32 0] rfl (by kernel_rfl) (by kernel_rfl) (by kernel_rfl)
      (OpenSpec.preRow_of_cond 8 hx (by kernel_rfl) (fun k hk => by cases hk) (by kernel_rfl) (laid_met os _))) ?_
  intro W base args ds gs before hval hW _ _ _ hL _ _
  exact contract H enc W base args ds gs before hval hW hL
theorem said : Rows.CrewWithinsSaid :=
  OpenClaim.holds_of_cond 7 Tryd.f7 rfl rfl rfl rfl rfl rfl rfl ⟨rfl, rfl, rfl, rfl, rfl⟩ rfl rfl rfl rfl rfl (by kernel_rfl) Tryd.func7 (by kernel_rfl)
    (of_decide_eq_true (by kernel_rfl)) (by unfold Func.isWrapper; first | (rw [if_pos (by decide +kernel)]; kernel_rfl) | (rw [if_neg (by decide +kernel)]; exact ⟨rfl, rfl⟩))
    (fun os started H enc _ F => by rw [OpenClaim.pre_eq_preRow]; exact lifted os started H enc F)
theorem plain (f : FuncId) (fn : Func) (hf : Tryd.pinned.checked.prog.funcNamed "tocsin/tocsinlaw07.CrewWithins" = some f) (hfn : Tryd.pinned.checked.prog.funcs[f]? = some fn) :
    false = Tryd.pinned.checked.prog.looks [] ∧ ∀ (j : Nat) t, fn.params[j]? = some t → Tryd.pinned.checked.prog.wantsStandIn t = false := by
  obtain rfl : f = 7 := Option.some.inj ((show Tryd.prog.funcNamed "tocsin/tocsinlaw07.CrewWithins" = some 7 by kernel_rfl).symm.trans hf) |>.symm
  obtain rfl : fn = Tryd.f7 := (Option.some.inj (Tryd.func7.symm.trans hfn)).symm
  refine ⟨by kernel_rfl, fun j t ht => ?_⟩
  rw [Tryd.params7] at ht
  have hall : ∀ t ∈ Tryd.f7.params.toList, Tryd.prog.wantsStandIn t = false := by
    rw [Tryd.params7]
    have h : ((#[22, 22] : Array TypeId).toList.all fun t => !Tryd.prog.wantsStandIn t) = true := by kernel_rfl
    intro t ht
    simpa using (List.all_eq_true.1 h) t ht
  exact hall t (by rw [Tryd.params7]; exact Array.mem_toList_iff.2 (Array.mem_of_getElem? ht))
theorem card : Rows.CrewWithinsCardSaid :=
  Claim7.holds_tied_plain_at .later [] _ _ _ _ said (fun _ h => by cases h) (by kernel_rfl) (fun _ h => by cases h) crewWithins_row_tie rfl ⟨rfl, rfl⟩ (by kernel_rfl) rfl plain (by kernel_rfl)
end Go.Proofs.YtdkmblebkgffgaaDoor.CrewW.CrewWithins
