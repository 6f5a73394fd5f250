/- Texts: Print, Parse; the document's own; Same. -/
import Derived.Test.YtdkmblebkgffgaaDoorCrewC
import Derived.Test.YtdkmblebkgffgaaDoorStr1
import Derived.BigQuiet
namespace Go.Proofs.YtdkmblebkgffgaaDoor.CrewW
open Go.RowKit Shell
/-- A row of bytes of our own. -/
def BR (w : World) (base : Nat) (v : Value) (xs : List Int) : Prop := OR w base 5 .u8 v xs
theorem byte_cl (w : World) (x y : Int) (e : y = x) (h0 : 0 ≤ x) (h1 : x < 256) (t : TypeId) : CL (w.alloc (.cells #[.int .u8 y] t)) .u8 (some ⟨w.heap.size, 0, none⟩) [x] := by
  subst e
  exact new_cl w .u8 [y] t (Wf.one (u8_wf' ⟨h0, h1⟩))
theorem txt_take {l : List Int} {k : Nat} {x : Int} (h : l[k]? = some x) : txt (l.take (k + 1)) = if k = 0 then [48 + x] else txt (l.take k) ++ [44, 48 + x] := by
  have hk := lt_of_get h
  rw [List.take_add_one, h]
  show txt (l.take k ++ [x]) = _
  rw [txt_snoc]
  by_cases h0 : k = 0
  · subst h0
    rw [if_pos rfl, if_pos (by simp)]
  · rw [if_neg h0, if_neg (by
      intro e
      have h2 := congrArg List.length e
      rw [List.length_take, List.length_nil] at h2
      omega)]
theorem txt_pos {l : List Int} {k : Nat} (h : k < l.length) (h0 : k ≠ 0) : 0 < (txt (l.take k)).length := by
  cases l with
  | nil => simp at h
  | cons y l =>
    obtain ⟨j, rfl⟩ : ∃ j, k = j + 1 := ⟨k - 1, by omega⟩
    rw [List.take_succ_cons]
    simp [txt]
/-- The text of a crew. -/
def ps (c : Nat) : ByteArray := strOfNums (prt c)
theorem mem_none {c : Nat} (h : c % 64 = 0) : mem c = [] := by rw [← mem_mod, h]; rfl
theorem mem_some {c : Nat} (h : c % 64 ≠ 0) : mem c ≠ [] := by
  intro e
  have := of_mem c
  rw [e] at this
  exact h this.symm
theorem ps_none {c : Nat} (h : c % 64 = 0) : ps c = ⟨#[45]⟩ := by
  unfold ps prt
  rw [if_pos (mem_none h)]
  rfl
theorem ps_some {c : Nat} (h : mem c ≠ []) : ps c = strOfNums (txt (mem c)) := by
  unfold ps prt
  rw [if_neg h]
theorem conv_bytes {w : World} {A : Option Addr} {xs : List Int} {n c : Nat} (h : CL w .u8 A xs) (hn : n = xs.length) : (convert 42 9 (.slice A n c)).run Tryd.prog w = .ok (.string (strOfNums xs)) w :=
  conv_cl Tryd.underlying42 Tryd.underlying5 Tryd.underlying9 h hn
set_option maxHeartbeats 4000000 in
theorem print_any (c : Nat) (w : World) (hc : c < 4294967296) : Calls Tryd.prog 23 #[.int .u32 (c : Int)] w fun e w' => e = .returned (.string (ps c)) ∧ Below w.heap.size w w' := by
  have HB := Lib.hid (u32_and_nat c 63 hc (by decide))
  rw [and63 c] at HB
  by_cases h0 : c % 64 = 0
  · rw [ps_none h0]
    rw [h0] at HB
    clear h0
    go_enter Tryd.func23, Tryd.ntmps23
    go_wp2_with (first | rw [show bits .and .u32 (c : Int) 63 = ((0 : Nat) : Int) from HB.out])
    go_ret
    exact ⟨rfl, Below.refl _ _⟩
  · have HM := Lib.hid (members_any c w hc)
    have HX := Lib.hid (fun (x : Int) (h : x ∈ mem c) => mem_digit h)
    have hx : (((c % 64 : Nat) : Int) == 0) = false := by rw [beq_eq_false_iff_ne]; omega
    rw [ps_some (mem_some h0)]
    have HL6 := Lib.hid (mem_len c)
    generalize c % 64 = r at *
    clear h0
    generalize mem c = L at *
    go_enter Tryd.func23, Tryd.ntmps23
    go_wp2_with (first | rw [show bits .and .u32 (c : Int) 63 = (r : Int) from HB.out])
    refine HM.out.mono ?_
    rintro e w1 ⟨v1, rfl, o1, b1⟩
    obtain ⟨A, d, rfl, hcl, -⟩ := o1.form
    have HC := Lib.hid hcl
    have B1 := Lib.hid b1
    clear o1 hcl b1
    obtain ⟨m, hm⟩ : ∃ m, m = L.length := ⟨_, rfl⟩
    rw [← hm] at HL6 ⊢
    have HMM := Lib.hid hm
    clear hm
    go_wp2
    go_loopw [3, 12] (fun tv iv wr => ∃ (k : Nat), k ≤ m ∧ iv = .int .i64 k ∧ Hid (BR wr w1.heap.size tv (txt (L.take k))) ∧ Hid (Below w1.heap.size w1 wr)) (fun _ iv _ => m - (intOf iv).toNat)
    case atStart => exact ⟨0, Nat.zero_le _, rfl, Lib.hid (OR.nil _ _ _ _), Lib.hid (Below.refl _ _)⟩
    case round =>
      obtain ⟨k, hk, rfl, HO, HW⟩ := hrel
      have hl6 := HL6.out
      by_cases hlt : k < m
      · obtain ⟨x, hx⟩ : ∃ x, L[k]? = some x := ⟨_, List.getElem?_eq_getElem (by rw [← HMM.out]; exact hlt)⟩
        obtain ⟨ad, rfl, hcell, _⟩ := (HC.out.below HW.out) k x hx
        have HT := Lib.hid (txt_take hx)
        have hd := HX.out x (List.mem_of_getElem? hx)
        have x0 := hd.1
        have x6 := hd.2
        clear hx hd
        have HK0 := Lib.hid (show k = 0 → txt (L.take k) = [] from fun h => by rw [h]; rfl)
        have HK1 := Lib.hid (show k ≠ 0 → 0 < (txt (L.take k)).length from fun h => txt_pos (by rw [← HMM.out]; exact hlt) h)
        have HKL := Lib.hid (show (txt (L.take k)).length ≤ 12 from Nat.le_trans (txt_len _) (by rw [List.length_take]; omega))
        generalize txt (L.take k) = T at *
        obtain ⟨B, d2, rfl, -⟩ := HO.out.form
        obtain ⟨tn, htn⟩ : ∃ tn, tn = T.length := ⟨_, rfl⟩
        rw [← htn] at HK1 HKL HO ⊢
        by_cases hk0 : k = 0
        · have hT := HK0.out hk0
          have HT2 := Lib.hid (HT.out.trans (if_pos hk0))
          have kt : decide ((0 : Int) < (tn : Int)) = false := by rw [htn, hT]; rfl
          have kt2 : decide (0 < tn) = false := by rw [htn, hT]; rfl
          have HTN := Lib.hid htn
          have HTE := Lib.hid hT
          clear HT hk0 HK0 HK1 htn hT
          go_wp2_with (at_builtin; refine wpList_append_or byte_one _ rfl _ _ rfl w1.heap.size _ T rfl (HO.out.alloc _) (some ⟨wr.heap.size, 0, none⟩) 1 1 [48 + x] rfl rfl ?c1 (fun h => by cases h) ?c2 (by decide) ?c3 ?_)
          case c1 => exact byte_cl _ _ _ (by omega) (by omega) (by omega) _
          case c2 => rw [HTE.out]; decide
          case c3 => rw [World.size_alloc]; have := HW.out.size; omega
          intro v2 w2 o2 s2
          rw [HTE.out] at o2
          have HO2 := Lib.hid (show BR w2 w1.heap.size v2 (txt (L.take (k + 1))) by rw [HT2.out]; exact o2)
          have HW2 := Lib.hid (HW.out.trans (((Step.alloc _ _ _).trans s2).below HO.out HW.out.size))
          clear o2 s2
          go_wp2
          go_roundw
          case rel => exact ⟨k + 1, by omega, by go_num, HO2, HW2⟩
          case measure => simp [intOf]; omega
        · have h1 := HK1.out hk0
          have HT2 := Lib.hid (HT.out.trans (if_neg hk0))
          have kt : decide ((0 : Int) < (tn : Int)) = true := by rw [decide_eq_true_eq]; omega
          have kt2 : decide (0 < tn) = true := by rw [decide_eq_true_eq]; omega
          have HTN := Lib.hid htn
          clear HT hk0 HK0 HK1 htn h1
          go_wp2_with (at_builtin; refine wpList_append_or byte_one _ rfl _ _ rfl w1.heap.size _ T rfl (HO.out.alloc _) (some ⟨wr.heap.size, 0, none⟩) 1 1 [44] rfl rfl ?c1 (fun h => by cases h) ?c2 (by decide) ?c3 ?_)
          case c1 => exact byte_cl _ _ _ (by omega) (by omega) (by omega) _
          case c2 => have := HKL.out; rw [← HTN.out]; omega
          case c3 => rw [World.size_alloc]; have := HW.out.size; omega
          intro v2 w2 o2 s2
          obtain ⟨B2, d3, rfl, -⟩ := o2.form
          have HO2 := Lib.hid o2
          have HW2 := Lib.hid (HW.out.trans (((Step.alloc _ _ _).trans s2).below HO.out HW.out.size))
          clear o2 s2
          obtain ⟨tn2, htn2⟩ : ∃ tn2, tn2 = (T ++ [44]).length := ⟨_, rfl⟩
          rw [← htn2] at HO2 ⊢
          clear htn2
          go_wp2_with (at_builtin; refine wpList_append_or byte_one _ rfl _ _ rfl w1.heap.size _ (T ++ [44]) rfl (HO2.out.alloc _) (some ⟨w2.heap.size, 0, none⟩) 1 1 [48 + x] rfl rfl ?d1 (fun h => by cases h) ?d2 (by decide) ?d3 ?_)
          case d1 => exact byte_cl _ _ _ (by omega) (by omega) (by omega) _
          case d2 => have := HKL.out; rw [List.length_append, ← HTN.out]; simp; omega
          case d3 => rw [World.size_alloc]; have := HW2.out.size; omega
          intro v3 w3 o3 s3
          have HO3 := Lib.hid (show BR w3 w1.heap.size v3 (txt (L.take (k + 1))) by rw [HT2.out]; exact o3)
          have HW3 := Lib.hid (HW2.out.trans (((Step.alloc _ _ _).trans s3).below HO2.out HW2.out.size))
          clear o3 s3
          go_wp2
          go_roundw
          case rel => exact ⟨k + 1, by omega, by go_num, HO3, HW3⟩
          case measure => simp [intOf]; omega
      · obtain rfl : k = m := by omega
        have e := HMM.out
        rw [List.take_of_length_le (by omega)] at HO
        clear e
        obtain ⟨B, d2, rfl, hcl, -⟩ := HO.out.form
        have C1 := conv_bytes (c := d2) hcl rfl
        have HC1 := Lib.hid hcl
        clear hcl
        go_wp2
        go_ret
        exact ⟨rfl, B1.out.trans (HW.out.mono B1.out.size)⟩
set_option maxHeartbeats 4000000 in
theorem refPrint_any (c : Nat) (w : World) (hc : c < 4294967296) : Calls Tryd.prog 25 #[.int .u32 (c : Int)] w fun e w' => e = .returned (.string (ps c)) ∧ Below w.heap.size w w' := by
  have HM := Lib.hid (refMembers_any c w hc)
  have HX := Lib.hid (fun (x : Int) (h : x ∈ mem c) => mem_digit h)
  have HL6 := Lib.hid (mem_len c)
  by_cases h0 : mem c = []
  · rw [show ps c = ⟨#[45]⟩ by unfold ps prt; rw [if_pos h0]; rfl]
    rw [h0] at HM
    clear HX HL6 h0
    go_enter Tryd.func25, Tryd.ntmps25
    go_wp2_with fail
    refine HM.out.mono ?_
    rintro e w1 ⟨v1, rfl, o1, b1⟩
    obtain ⟨A, d, rfl, -⟩ := o1.form
    have B1 := Lib.hid b1
    clear o1 b1
    rw [List.length_nil]
    go_wp2
    go_ret
    exact ⟨rfl, B1.out⟩
  · rw [ps_some h0]
    have HN0 := Lib.hid h0
    clear h0
    generalize mem c = L at *
    go_enter Tryd.func25, Tryd.ntmps25
    go_wp2_with fail
    refine HM.out.mono ?_
    rintro e w1 ⟨v1, rfl, o1, b1⟩
    obtain ⟨A, d, rfl, hcl, -⟩ := o1.form
    have HC := Lib.hid hcl
    have B1 := Lib.hid b1
    clear o1 hcl b1
    obtain ⟨m, hm⟩ : ∃ m, m = L.length := ⟨_, rfl⟩
    have hm0 : ((m : Int) == 0) = false := by
      have := List.length_pos_iff.2 HN0.out
      rw [beq_eq_false_iff_ne]
      omega
    rw [← hm] at HL6 ⊢
    have HMM := Lib.hid hm
    clear hm
    go_wp2
    clear hm0
    go_loopw [4, 5] (fun tv iv wr => ∃ (k : Nat), k ≤ m ∧ iv = .int .i64 k ∧ Hid (BR wr w1.heap.size tv (txt (L.take k))) ∧ Hid (Below w1.heap.size w1 wr)) (fun _ iv _ => m - (intOf iv).toNat)
    case atStart => exact ⟨0, Nat.zero_le _, rfl, Lib.hid (OR.nil _ _ _ _), Lib.hid (Below.refl _ _)⟩
    case round =>
      obtain ⟨k, hk, rfl, HO, HW⟩ := hrel
      have hl6 := HL6.out
      by_cases hlt : k < m
      · obtain ⟨x, hx⟩ : ∃ x, L[k]? = some x := ⟨_, List.getElem?_eq_getElem (by rw [← HMM.out]; exact hlt)⟩
        have HT := Lib.hid (txt_take hx)
        have hd := HX.out x (List.mem_of_getElem? hx)
        have HXX := Lib.hid hx
        have x0 := hd.1
        have x6 := hd.2
        clear hx hd
        have HK0 := Lib.hid (show k = 0 → txt (L.take k) = [] from fun h => by rw [h]; rfl)
        have HKL := Lib.hid (show (txt (L.take k)).length ≤ 12 from Nat.le_trans (txt_len _) (by rw [List.length_take]; omega))
        generalize txt (L.take k) = T at *
        obtain ⟨B, d2, rfl, -⟩ := HO.out.form
        obtain ⟨tn, htn⟩ : ∃ tn, tn = T.length := ⟨_, rfl⟩
        rw [← htn] at HKL HO ⊢
        by_cases hk0 : k = 0
        · have hT := HK0.out hk0
          have HT2 := Lib.hid (HT.out.trans (if_pos hk0))
          have kt : decide ((0 : Int) < (k : Int)) = false := by rw [hk0]; rfl
          have kt2 : decide (0 < k) = false := by rw [hk0]; rfl
          obtain ⟨ad, rfl, hcell, _⟩ := (HC.out.below HW.out) k x HXX.out
          have HTE := Lib.hid hT
          clear HT hk0 HK0 htn hT
          go_wp2_with (at_builtin; refine wpList_append_or byte_one _ rfl _ _ rfl w1.heap.size _ T rfl (HO.out.alloc _) (some ⟨wr.heap.size, 0, none⟩) 1 1 [48 + x] rfl rfl ?c1 (fun h => by cases h) ?c2 (by decide) ?c3 ?_)
          case c1 => exact byte_cl _ _ _ (by omega) (by omega) (by omega) _
          case c2 => rw [HTE.out]; decide
          case c3 => rw [World.size_alloc]; have := HW.out.size; omega
          intro v2 w2 o2 s2
          rw [HTE.out] at o2
          have HO2 := Lib.hid (show BR w2 w1.heap.size v2 (txt (L.take (k + 1))) by rw [HT2.out]; exact o2)
          have HW2 := Lib.hid (HW.out.trans (((Step.alloc _ _ _).trans s2).below HO.out HW.out.size))
          clear o2 s2
          go_wp2
          go_roundw
          case rel => exact ⟨k + 1, by omega, by go_num, HO2, HW2⟩
          case measure => simp [intOf]; omega
        · have HT2 := Lib.hid (HT.out.trans (if_neg hk0))
          have kt : decide ((0 : Int) < (k : Int)) = true := by rw [decide_eq_true_eq]; omega
          have kt2 : decide (0 < k) = true := by rw [decide_eq_true_eq]; omega
          have HTN := Lib.hid htn
          clear HT hk0 HK0 htn
          go_wp2_with (at_builtin; refine wpList_append_or byte_one _ rfl _ _ rfl w1.heap.size _ T rfl (HO.out.alloc _) (some ⟨wr.heap.size, 0, none⟩) 1 1 [44] rfl rfl ?c1 (fun h => by cases h) ?c2 (by decide) ?c3 ?_)
          case c1 => exact byte_cl _ _ _ (by omega) (by omega) (by omega) _
          case c2 => have := HKL.out; rw [← HTN.out]; omega
          case c3 => rw [World.size_alloc]; have := HW.out.size; omega
          intro v2 w2 o2 s2
          obtain ⟨B2, d3, rfl, -⟩ := o2.form
          have HO2 := Lib.hid o2
          have HW2 := Lib.hid (HW.out.trans (((Step.alloc _ _ _).trans s2).below HO.out HW.out.size))
          clear o2 s2
          obtain ⟨tn2, htn2⟩ : ∃ tn2, tn2 = (T ++ [44]).length := ⟨_, rfl⟩
          rw [← htn2] at HO2 ⊢
          clear htn2
          obtain ⟨ad, rfl, hcell, _⟩ := (HC.out.below HW2.out) k x HXX.out
          go_wp2_with (at_builtin; refine wpList_append_or byte_one _ rfl _ _ rfl w1.heap.size _ (T ++ [44]) rfl (HO2.out.alloc _) (some ⟨w2.heap.size, 0, none⟩) 1 1 [48 + x] rfl rfl ?d1 (fun h => by cases h) ?d2 (by decide) ?d3 ?_)
          case d1 => exact byte_cl _ _ _ (by omega) (by omega) (by omega) _
          case d2 => have := HKL.out; rw [List.length_append, ← HTN.out]; simp; omega
          case d3 => rw [World.size_alloc]; have := HW2.out.size; omega
          intro v3 w3 o3 s3
          have HO3 := Lib.hid (show BR w3 w1.heap.size v3 (txt (L.take (k + 1))) by rw [HT2.out]; exact o3)
          have HW3 := Lib.hid (HW2.out.trans (((Step.alloc _ _ _).trans s3).below HO2.out HW2.out.size))
          clear o3 s3
          go_wp2
          go_roundw
          case rel => exact ⟨k + 1, by omega, by go_num, HO3, HW3⟩
          case measure => simp [intOf]; omega
      · obtain rfl : k = m := by omega
        have e := HMM.out
        rw [List.take_of_length_le (by omega)] at HO
        clear e
        obtain ⟨B, d2, rfl, hcl, -⟩ := HO.out.form
        have C1 := conv_bytes (c := d2) hcl rfl
        have HC1 := Lib.hid hcl
        clear hcl
        go_wp2
        go_ret
        exact ⟨rfl, B1.out.trans (HW.out.mono B1.out.size)⟩
end Go.Proofs.YtdkmblebkgffgaaDoor.CrewW
