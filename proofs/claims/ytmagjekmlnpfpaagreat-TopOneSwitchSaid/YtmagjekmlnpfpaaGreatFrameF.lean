/- Which frames are right: the four functions. -/
import Derived.Test.YtmagjekmlnpfpaaGreatFrameAJa
import Derived.WalkSpells
import Derived.Laws.Slices
namespace Go.Proofs.YtmagjekmlnpfpaaGreat.FrameW
open Go.RowKit
/-- A control frame, a data frame, as values. -/
abbrev CV (k f cy cr cl : Int) : Value := .agg #[.int .i64 k, .int .i64 f, .int .i64 cy, .int .u32 cr, .int .i64 cl]
set_option maxHeartbeats 4000000 in
theorem rightControl_any (k f cy cr cl : Int) (w : World) (hcr : 0 ≤ cr) :
    Calls Tryz.prog 201 #[CV k f cy cr cl] w fun e w' => e = .returned (.bool (decide (rightC k f cy cr cl))) ∧ Below w.heap.size w w' := by
  by_cases hk : k = 1 ∨ k = 2
  · rcases hk with rfl | rfl
    · skip
      by_cases h0 : 0 ≤ f
      · skip
        by_cases h1 : f ≤ 7
        · skip
          by_cases h2 : 0 ≤ cy
          · skip
            by_cases h3 : cy ≤ 1125899906842624
            · skip
              by_cases h4 : cr < 64
              · skip
                by_cases h5 : 0 ≤ cl
                · skip
                  by_cases h6 : cl ≤ 1048576
                  · skip
                    have HV := Lib.hid (show decide (rightC 1 f cy cr cl) = true from decide_eq_true (by unfold rightC; omega))
                    go_enter Tryz.func201, Tryz.ntmps201
                    go_wp2
                    go_ret
                    exact ⟨by rw [HV.out]; rfl, al (Below.refl _ _) _⟩
                  · skip
                    have HV := Lib.hid (show decide (rightC 1 f cy cr cl) = false from decide_eq_false (by unfold rightC; omega))
                    go_enter Tryz.func201, Tryz.ntmps201
                    go_wp2
                    go_ret
                    exact ⟨by rw [HV.out]; rfl, al (Below.refl _ _) _⟩
                · skip
                  have HV := Lib.hid (show decide (rightC 1 f cy cr cl) = false from decide_eq_false (by unfold rightC; omega))
                  go_enter Tryz.func201, Tryz.ntmps201
                  go_wp2
                  go_ret
                  exact ⟨by rw [HV.out]; rfl, al (Below.refl _ _) _⟩
              · skip
                have HV := Lib.hid (show decide (rightC 1 f cy cr cl) = false from decide_eq_false (by unfold rightC; omega))
                go_enter Tryz.func201, Tryz.ntmps201
                go_wp2
                go_ret
                exact ⟨by rw [HV.out]; rfl, al (Below.refl _ _) _⟩
            · skip
              have HV := Lib.hid (show decide (rightC 1 f cy cr cl) = false from decide_eq_false (by unfold rightC; omega))
              go_enter Tryz.func201, Tryz.ntmps201
              go_wp2
              go_ret
              exact ⟨by rw [HV.out]; rfl, al (Below.refl _ _) _⟩
          · skip
            have HV := Lib.hid (show decide (rightC 1 f cy cr cl) = false from decide_eq_false (by unfold rightC; omega))
            go_enter Tryz.func201, Tryz.ntmps201
            go_wp2
            go_ret
            exact ⟨by rw [HV.out]; rfl, al (Below.refl _ _) _⟩
        · skip
          have HV := Lib.hid (show decide (rightC 1 f cy cr cl) = false from decide_eq_false (by unfold rightC; omega))
          go_enter Tryz.func201, Tryz.ntmps201
          go_wp2
          go_ret
          exact ⟨by rw [HV.out]; rfl, al (Below.refl _ _) _⟩
      · skip
        have HV := Lib.hid (show decide (rightC 1 f cy cr cl) = false from decide_eq_false (by unfold rightC; omega))
        go_enter Tryz.func201, Tryz.ntmps201
        go_wp2
        go_ret
        exact ⟨by rw [HV.out]; rfl, al (Below.refl _ _) _⟩
    · skip
      by_cases h0 : 0 ≤ f
      · skip
        by_cases h1 : f ≤ 7
        · skip
          by_cases h2 : 0 ≤ cy
          · skip
            by_cases h3 : cy ≤ 1125899906842624
            · skip
              by_cases h4 : cr < 64
              · skip
                by_cases h5 : 0 ≤ cl
                · skip
                  by_cases h6 : cl ≤ 1048576
                  · skip
                    have HV := Lib.hid (show decide (rightC 2 f cy cr cl) = true from decide_eq_true (by unfold rightC; omega))
                    go_enter Tryz.func201, Tryz.ntmps201
                    go_wp2
                    go_ret
                    exact ⟨by rw [HV.out]; rfl, al (Below.refl _ _) _⟩
                  · skip
                    have HV := Lib.hid (show decide (rightC 2 f cy cr cl) = false from decide_eq_false (by unfold rightC; omega))
                    go_enter Tryz.func201, Tryz.ntmps201
                    go_wp2
                    go_ret
                    exact ⟨by rw [HV.out]; rfl, al (Below.refl _ _) _⟩
                · skip
                  have HV := Lib.hid (show decide (rightC 2 f cy cr cl) = false from decide_eq_false (by unfold rightC; omega))
                  go_enter Tryz.func201, Tryz.ntmps201
                  go_wp2
                  go_ret
                  exact ⟨by rw [HV.out]; rfl, al (Below.refl _ _) _⟩
              · skip
                have HV := Lib.hid (show decide (rightC 2 f cy cr cl) = false from decide_eq_false (by unfold rightC; omega))
                go_enter Tryz.func201, Tryz.ntmps201
                go_wp2
                go_ret
                exact ⟨by rw [HV.out]; rfl, al (Below.refl _ _) _⟩
            · skip
              have HV := Lib.hid (show decide (rightC 2 f cy cr cl) = false from decide_eq_false (by unfold rightC; omega))
              go_enter Tryz.func201, Tryz.ntmps201
              go_wp2
              go_ret
              exact ⟨by rw [HV.out]; rfl, al (Below.refl _ _) _⟩
          · skip
            have HV := Lib.hid (show decide (rightC 2 f cy cr cl) = false from decide_eq_false (by unfold rightC; omega))
            go_enter Tryz.func201, Tryz.ntmps201
            go_wp2
            go_ret
            exact ⟨by rw [HV.out]; rfl, al (Below.refl _ _) _⟩
        · skip
          have HV := Lib.hid (show decide (rightC 2 f cy cr cl) = false from decide_eq_false (by unfold rightC; omega))
          go_enter Tryz.func201, Tryz.ntmps201
          go_wp2
          go_ret
          exact ⟨by rw [HV.out]; rfl, al (Below.refl _ _) _⟩
      · skip
        have HV := Lib.hid (show decide (rightC 2 f cy cr cl) = false from decide_eq_false (by unfold rightC; omega))
        go_enter Tryz.func201, Tryz.ntmps201
        go_wp2
        go_ret
        exact ⟨by rw [HV.out]; rfl, al (Below.refl _ _) _⟩
  · have hk1 : (k == 1) = false := by simp; omega
    have hk2 : (k == 2) = false := by simp; omega
    have HV := Lib.hid (show decide (rightC k f cy cr cl) = false from decide_eq_false (by unfold rightC; omega))
    go_enter Tryz.func201, Tryz.ntmps201
    go_wp2
    go_ret
    exact ⟨by rw [HV.out]; rfl, al (Below.refl _ _) _⟩
end Go.Proofs.YtmagjekmlnpfpaaGreat.FrameW


