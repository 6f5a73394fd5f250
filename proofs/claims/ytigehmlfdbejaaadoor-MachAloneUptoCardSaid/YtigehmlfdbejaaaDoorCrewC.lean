/- Walks that lay rows: Members; the document's own Members and Common; Same. -/
import Derived.Test.YtigehmlfdbejaaaDoorCrewB
namespace Go.Proofs.YtigehmlfdbejaaaDoor.CrewW
open Go.RowKit Shell
theorem int_one : One Tryd.prog 25 3 .i64 8 := ⟨Tryd.underlying25, info_parts (show (Tryd.prog.info? 3).map (fun i => (i.zero, i.size, i.bytes)) = some (some (.int .i64 0), 1, 8) by kernel_rfl)⟩
/-- A row of ints of our own. -/
def IR (w : World) (base : Nat) (v : Value) (xs : List Int) : Prop := OR w base 3 .i64 v xs
theorem i64_small {x : Int} (h0 : -1000 ≤ x) (h1 : x < 1000) : (Lit.int .i64 x).wf = true := by
  simp [Lit.wf]
  constructor
  · show -9223372036854775808 ≤ x; omega
  · show x ≤ 9223372036854775807; omega
theorem one_cl (w : World) (x : Int) (h0 : -1000 ≤ x) (h1 : x < 1000) (t : TypeId) : CL (w.alloc (.cells #[.int .i64 x] t)) .i64 (some ⟨w.heap.size, 0, none⟩) [x] := new_cl w .i64 [x] t (Wf.one (i64_small h0 h1))
set_option maxHeartbeats 2000000 in
theorem refMembers_any (c : Nat) (w : World) (hc : c < 4294967296) : Calls Tryd.prog 24 #[.int .u32 (c : Int)] w fun e w' => ∃ v, e = .returned v ∧ IR w' w.heap.size v (mem c) ∧ Below w.heap.size w w' := by
  have HC := Lib.hid hc
  clear hc
  have HM := Lib.hid (show memTo c 6 = mem c from rfl)
  go_enter Tryd.func24, Tryd.ntmps24
  go_wp2
  go_loopw [3, 4] (fun lv iv wr => ∃ (k : Nat), k ≤ 6 ∧ iv = .int .i64 k ∧ Hid (IR wr w.heap.size lv (memTo c k)) ∧ Hid (Below w.heap.size w wr)) (fun _ iv _ => 6 - (intOf iv).toNat)
  case atStart => exact ⟨0, Nat.zero_le _, rfl, Lib.hid (OR.nil _ _ _ _), Lib.hid (Below.refl _ _)⟩
  case round =>
    obtain ⟨k, hk, rfl, HO, HB⟩ := hrel
    by_cases hlt : (k : Int) < 6
    · have HH := fun W => refHas_any c (k : Int) W HC.out
      rw [has_nat c k (by omega)] at HH
      have HS := Lib.hid (memTo_succ c k)
      have HL := Lib.hid (memTo_len c k)
      generalize memTo c k = L at *
      obtain ⟨A, d, rfl, -⟩ := HO.out.form
      cases hbit : c.testBit k <;> (rw [hbit] at HH HS; clear hbit)
      · go_wp2_with fail
        refine (HH _).mono ?_
        rintro e w9 ⟨rfl, hw⟩
        obtain rfl := hw.symm
        go_wp2
        go_roundw
        case rel => exact ⟨k + 1, by omega, by go_num, by rw [HS.out]; exact HO, HB⟩
        case measure => simp [intOf]; omega
      · go_wp2_with fail
        refine (HH _).mono ?_
        rintro e w9 ⟨rfl, hw⟩
        obtain rfl := hw.symm
        clear HH
        go_wp2_with (at_builtin; refine wpList_append_or int_one _ rfl _ _ rfl w.heap.size _ _ rfl (HO.out.alloc _) (some ⟨wr.heap.size, 0, none⟩) 1 1 [(k : Int)] rfl rfl ?c1 (fun h => by cases h) ?c2 (by decide) ?c3 ?_)
        case c1 => exact one_cl _ _ (by omega) (by omega) _
        case c2 => have := HL.out; omega
        case c3 => rw [World.size_alloc]; have := HB.out.size; omega
        intro v2 w2 o2 s2
        have HO2 := Lib.hid (show IR w2 w.heap.size v2 (memTo c (k + 1)) by rw [HS.out]; exact o2)
        have HB2 := Lib.hid (HB.out.trans (((Step.alloc _ _ _).trans s2).below HO.out HB.out.size))
        clear o2 s2
        go_wp2
        go_roundw
        case rel => exact ⟨k + 1, by omega, by go_num, HO2, HB2⟩
        case measure => simp [intOf]; omega
    · obtain rfl : k = 6 := by omega
      rw [HM.out] at HO
      go_wp2
      go_ret
      exact ⟨_, rfl, HO.out, HB.out⟩
end Go.Proofs.YtigehmlfdbejaaaDoor.CrewW

