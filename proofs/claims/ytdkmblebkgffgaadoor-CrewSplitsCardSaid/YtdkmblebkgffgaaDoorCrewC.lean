/- Walks that lay rows: Members; the document's own Members and Common; Same. -/
import Derived.Test.YtdkmblebkgffgaaDoorCrewB
namespace Go.Proofs.YtdkmblebkgffgaaDoor.CrewW
open Go.RowKit Shell
theorem int_one : One Tryd.prog 24 3 .i64 8 := ⟨Tryd.underlying24, info_parts (show (Tryd.prog.info? 3).map (fun i => (i.zero, i.size, i.bytes)) = some (some (.int .i64 0), 1, 8) by kernel_rfl)⟩
theorem byte_one : One Tryd.prog 42 5 .u8 1 := ⟨Tryd.underlying42, info_parts (show (Tryd.prog.info? 5).map (fun i => (i.zero, i.size, i.bytes)) = some (some (.int .u8 0), 1, 1) by kernel_rfl)⟩
/-- A row of ints of our own. -/
def IR (w : World) (base : Nat) (v : Value) (xs : List Int) : Prop := OR w base 3 .i64 v xs
theorem i64_small {x : Int} (h0 : -1000 ≤ x) (h1 : x < 1000) : (Lit.int .i64 x).wf = true := by
  simp [Lit.wf]
  constructor
  · show -9223372036854775808 ≤ x; omega
  · show x ≤ 9223372036854775807; omega
theorem one_cl (w : World) (x : Int) (h0 : -1000 ≤ x) (h1 : x < 1000) (t : TypeId) : CL (w.alloc (.cells #[.int .i64 x] t)) .i64 (some ⟨w.heap.size, 0, none⟩) [x] := new_cl w .i64 [x] t (Wf.one (i64_small h0 h1))
set_option maxHeartbeats 2000000 in
theorem members_any (c : Nat) (w : World) (hc : c < 4294967296) : Calls Tryd.prog 12 #[.int .u32 (c : Int)] w fun e w' => ∃ v, e = .returned v ∧ IR w' w.heap.size v (mem c) ∧ Below w.heap.size w w' := by
  have HC := Lib.hid hc
  clear hc
  have HM := Lib.hid (show memTo c 6 = mem c from rfl)
  go_enter Tryd.func12, Tryd.ntmps12
  go_wp2
  go_loopw [3, 5] (fun lv iv wr => ∃ (k : Nat), k ≤ 6 ∧ iv = .int .i64 k ∧ Hid (IR wr w.heap.size lv (memTo c k)) ∧ Hid (Below w.heap.size w wr)) (fun _ iv _ => 6 - (intOf iv).toNat)
  case atStart => exact ⟨0, Nat.zero_le _, rfl, Lib.hid (OR.nil _ _ _ _), Lib.hid (Below.refl _ _)⟩
  case round =>
    obtain ⟨k, hk, rfl, HO, HB⟩ := hrel
    by_cases hlt : (k : Int) < 6
    · have HH := fun W => has_any c (k : Int) W HC.out
      rw [has_nat c k (by omega)] at HH
      have HS := Lib.hid (memTo_succ c k)
      have HL := Lib.hid (memTo_len c k)
      generalize memTo c k = L at *
      obtain ⟨A, d, rfl, -⟩ := HO.out.form
      cases hbit : c.testBit k <;> (rw [hbit] at HH HS; clear hbit)
      · go_wp2_with fail
        refine (HH _).mono ?_
        rintro e w9 ⟨rfl, hw⟩
        obtain rfl := hw.symm
        go_wp2
        go_roundw
        case rel => exact ⟨k + 1, by omega, by go_num, by rw [HS.out]; exact HO, HB⟩
        case measure => simp [intOf]; omega
      · go_wp2_with fail
        refine (HH _).mono ?_
        rintro e w9 ⟨rfl, hw⟩
        obtain rfl := hw.symm
        clear HH
        go_wp2_with (at_builtin; refine wpList_append_or int_one _ rfl _ _ rfl w.heap.size _ _ rfl (HO.out.alloc _) (some ⟨wr.heap.size, 0, none⟩) 1 1 [(k : Int)] rfl rfl ?c1 (fun h => by cases h) ?c2 (by decide) ?c3 ?_)
        case c1 => exact one_cl _ _ (by omega) (by omega) _
        case c2 => have := HL.out; omega
        case c3 => rw [World.size_alloc]; have := HB.out.size; omega
        intro v2 w2 o2 s2
        have HO2 := Lib.hid (show IR w2 w.heap.size v2 (memTo c (k + 1)) by rw [HS.out]; exact o2)
        have HB2 := Lib.hid (HB.out.trans (((Step.alloc _ _ _).trans s2).below HO.out HB.out.size))
        clear o2 s2
        go_wp2
        go_roundw
        case rel => exact ⟨k + 1, by omega, by go_num, HO2, HB2⟩
        case measure => simp [intOf]; omega
    · obtain rfl : k = 6 := by omega
      rw [HM.out] at HO
      go_wp2
      go_ret
      exact ⟨_, rfl, HO.out, HB.out⟩
set_option maxHeartbeats 2000000 in
theorem refMembers_any (c : Nat) (w : World) (hc : c < 4294967296) : Calls Tryd.prog 10 #[.int .u32 (c : Int)] w fun e w' => ∃ v, e = .returned v ∧ IR w' w.heap.size v (mem c) ∧ Below w.heap.size w w' := by
  have HC := Lib.hid hc
  clear hc
  have HM := Lib.hid (show memTo c 6 = mem c from rfl)
  go_enter Tryd.func10, Tryd.ntmps10
  go_wp2
  go_loopw [3, 4] (fun lv iv wr => ∃ (k : Nat), k ≤ 6 ∧ iv = .int .i64 k ∧ Hid (IR wr w.heap.size lv (memTo c k)) ∧ Hid (Below w.heap.size w wr)) (fun _ iv _ => 6 - (intOf iv).toNat)
  case atStart => exact ⟨0, Nat.zero_le _, rfl, Lib.hid (OR.nil _ _ _ _), Lib.hid (Below.refl _ _)⟩
  case round =>
    obtain ⟨k, hk, rfl, HO, HB⟩ := hrel
    by_cases hlt : (k : Int) < 6
    · have HH := fun W => refHas_any c (k : Int) W HC.out
      rw [has_nat c k (by omega)] at HH
      have HS := Lib.hid (memTo_succ c k)
      have HL := Lib.hid (memTo_len c k)
      generalize memTo c k = L at *
      obtain ⟨A, d, rfl, -⟩ := HO.out.form
      cases hbit : c.testBit k <;> (rw [hbit] at HH HS; clear hbit)
      · go_wp2_with fail
        refine (HH _).mono ?_
        rintro e w9 ⟨rfl, hw⟩
        obtain rfl := hw.symm
        go_wp2
        go_roundw
        case rel => exact ⟨k + 1, by omega, by go_num, by rw [HS.out]; exact HO, HB⟩
        case measure => simp [intOf]; omega
      · go_wp2_with fail
        refine (HH _).mono ?_
        rintro e w9 ⟨rfl, hw⟩
        obtain rfl := hw.symm
        clear HH
        go_wp2_with (at_builtin; refine wpList_append_or int_one _ rfl _ _ rfl w.heap.size _ _ rfl (HO.out.alloc _) (some ⟨wr.heap.size, 0, none⟩) 1 1 [(k : Int)] rfl rfl ?c1 (fun h => by cases h) ?c2 (by decide) ?c3 ?_)
        case c1 => exact one_cl _ _ (by omega) (by omega) _
        case c2 => have := HL.out; omega
        case c3 => rw [World.size_alloc]; have := HB.out.size; omega
        intro v2 w2 o2 s2
        have HO2 := Lib.hid (show IR w2 w.heap.size v2 (memTo c (k + 1)) by rw [HS.out]; exact o2)
        have HB2 := Lib.hid (HB.out.trans (((Step.alloc _ _ _).trans s2).below HO.out HB.out.size))
        clear o2 s2
        go_wp2
        go_roundw
        case rel => exact ⟨k + 1, by omega, by go_num, HO2, HB2⟩
        case measure => simp [intOf]; omega
    · obtain rfl : k = 6 := by omega
      rw [HM.out] at HO
      go_wp2
      go_ret
      exact ⟨_, rfl, HO.out, HB.out⟩
theorem hosts_len (p : Nat → Bool) (k : Nat) : (((List.range k).filter p).map fun h : Nat => (h : Int)).length ≤ k := by
  rw [List.length_map]
  exact Nat.le_trans (List.length_filter_le _ _) (by simp)
set_option maxHeartbeats 2000000 in
theorem refCommon_any (A : Option Addr) (n c : Nat) (l : List Nat) (w : World) (hc : CL w .u32 A (up l)) (hn : n = l.length) (hl : n ≤ 281474976710656) :
    Calls Tryd.prog 20 #[.slice A n c] w fun e w' => e = .returned (.int .u32 (com l : Nat)) ∧ Below w.heap.size w w' := by
  have H := Lib.hid hc
  have HL := Lib.hid hl
  have HN := Lib.hid hn
  clear hc hl hn
  obtain ⟨p, hp⟩ : ∃ p : Nat → Bool, p = fun h => decide (l.length < 2 * cnt l h) := ⟨_, rfl⟩
  have HM := Lib.hid (show of (((List.range 6).filter p).map fun h : Nat => (h : Int)) = com l by rw [of_filter, hp]; rfl)
  have HP := Lib.hid (fun h : Nat => congrFun hp h)
  clear hp
  go_enter Tryd.func20, Tryd.ntmps20
  go_wp2
  go_loopw [3, 4] (fun lv iv wr => ∃ (k : Nat), k ≤ 6 ∧ iv = .int .i64 k ∧ Hid (IR wr w.heap.size lv (((List.range k).filter p).map fun h : Nat => (h : Int))) ∧ Hid (Below w.heap.size w wr)) (fun _ iv _ => 6 - (intOf iv).toNat)
  case atStart => exact ⟨0, Nat.zero_le _, rfl, Lib.hid (OR.nil _ _ _ _), Lib.hid (Below.refl _ _)⟩
  case round =>
    obtain ⟨k, hk, rfl, HO, HB⟩ := hrel
    obtain ⟨w0, hw0⟩ : ∃ w0, w0 = wr := ⟨_, rfl⟩
    subst hw0
    by_cases hlt : (k : Int) < 6
    · have HS := Lib.hid (range_succ p k)
      have HT := Lib.hid (hosts_len p k)
      have HQ := Lib.hid (HP.out k)
      generalize (((List.range k).filter p).map fun h : Nat => (h : Int)) = L at *
      obtain ⟨B, d, rfl, -⟩ := HO.out.form
      have HC := Lib.hid (H.out.below HB.out)
      have HK := Lib.hid hlt
      go_wp2
      go_loopw [5, 6] (fun cv iv wr => ∃ (i : Nat), i ≤ n ∧ iv = .int .i64 i ∧ cv = .int .i64 (cnt (l.take i) k : Nat) ∧ wr = w0) (fun _ iv _ => n - (intOf iv).toNat)
      case atStart => exact ⟨0, Nat.zero_le _, rfl, rfl, rfl⟩
      case round =>
        obtain ⟨i, hi, rfl, rfl, rfl⟩ := hrel
        have hll := HL.out
        by_cases hlt2 : i < n
        · obtain ⟨x, hx⟩ : ∃ x, l[i]? = some x := ⟨_, List.getElem?_eq_getElem (by rw [← HN.out]; exact hlt2)⟩
          obtain ⟨ad, rfl, hcell, hwf⟩ := HC.out i x (up_get hx)
          have HT2 := Lib.hid (cnt_take hx k)
          have hb : (cnt (l.take i) k : Nat) ≤ i := Nat.le_trans (cnt_len _ _) (by rw [List.length_take]; omega)
          have HH := fun W => refHas_any x (k : Int) W (by have := u32_bound hwf; omega)
          rw [has_nat x k (by omega)] at HH
          clear hx
          generalize cnt (l.take i) k = a at *
          cases hbit : x.testBit k <;> (rw [hbit] at HH HT2; clear hbit)
          · go_wp2_with fail
            refine (HH _).mono ?_
            rintro e w9 ⟨rfl, hw⟩
            obtain rfl := hw.symm
            go_wp2
            go_roundw
            case rel => exact ⟨i + 1, by omega, by go_num, by rw [HT2.out]; rfl, trivial⟩
            case measure => simp [intOf]; omega
          · go_wp2_with fail
            refine (HH _).mono ?_
            rintro e w9 ⟨rfl, hw⟩
            obtain rfl := hw.symm
            go_wp2
            go_roundw
            case rel => exact ⟨i + 1, by omega, by go_num, by rw [HT2.out]; go_num, trivial⟩
            case measure => simp [intOf]; omega
        · obtain rfl : i = n := by omega
          have e := HN.out
          rw [List.take_of_length_le (by omega)]
          have hcl := cnt_len l k
          have hq := HQ.out
          rw [← e] at hcl hq
          clear e
          generalize cnt l k = a at *
          by_cases hpk : i < 2 * a
          · have hpt : p k = true := by rw [hq]; simpa using hpk
            have HS2 := Lib.hid (HS.out.trans (if_pos hpt))
            clear hq hpt
            have k1 : (i : Int) < 2 * (a : Int) := by omega
            go_wp2_with (at_builtin; refine wpList_append_or int_one _ rfl _ _ rfl w.heap.size _ _ rfl (HO.out.alloc _) (some ⟨wr.heap.size, 0, none⟩) 1 1 [(k : Int)] rfl rfl ?c1 (fun h => by cases h) ?c2 (by decide) ?c3 ?_)
            case c1 => exact one_cl _ _ (by omega) (by have := HK.out; omega) _
            case c2 => have := HT.out; have := HK.out; omega
            case c3 => rw [World.size_alloc]; have := HB.out.size; omega
            intro v2 w2 o2 s2
            have HO2 := Lib.hid (show IR w2 w.heap.size v2 (((List.range (k + 1)).filter p).map fun h : Nat => (h : Int)) by rw [HS2.out]; exact o2)
            have HB2 := Lib.hid (HB.out.trans (((Step.alloc _ _ _).trans s2).below HO.out HB.out.size))
            clear o2 s2
            go_wp2
            exact ⟨⟨k + 1, by omega, by go_num, HO2, HB2⟩, by simp [intOf]; omega⟩
          · have hpt : p k = false := by rw [hq]; simpa using hpk
            have HS2 := Lib.hid (HS.out.trans (if_neg (by rw [hpt]; decide)))
            clear hq hpt
            have k1 : ¬ (i : Int) < 2 * (a : Int) := by omega
            go_wp2
            exact ⟨⟨k + 1, by omega, by go_num, Lib.hid (by rw [HS2.out]; exact HO.out), HB⟩, by simp [intOf]; omega⟩
    · obtain rfl : k = 6 := by omega
      have HT := Lib.hid (hosts_len p 6)
      have HM2 := HM.out
      generalize (((List.range 6).filter p).map fun h : Nat => (h : Int)) = L at *
      obtain ⟨B, d, rfl, hcl, -⟩ := HO.out.form
      have HX := Lib.hid (refOf_any B L.length d L w0 hcl rfl (by have := HT.out; omega))
      have HM3 := Lib.hid HM2
      clear hcl HM2
      go_wp2_with fail
      refine HX.out.mono ?_
      rintro e w9 ⟨rfl, hw⟩
      obtain rfl := hw.symm
      rw [HM3.out]
      go_wp2
      go_ret
      exact ⟨rfl, HB.out⟩
end Go.Proofs.YtdkmblebkgffgaaDoor.CrewW
