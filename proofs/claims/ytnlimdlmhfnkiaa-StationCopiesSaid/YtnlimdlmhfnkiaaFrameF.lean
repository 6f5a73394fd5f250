/- Which frames are right: the four functions. -/
import Derived.Test.YtnlimdlmhfnkiaaFrameAJa
import Derived.WalkSpells
import Derived.Laws.Slices
namespace Go.Proofs.Ytnlimdlmhfnkiaa.FrameW
open Go.RowKit
abbrev DV (c l n : Int) (p : ByteArray) (s : Int) : Value := .agg #[.int .i64 c, .int .i64 l, .int .i64 n, .string p, .int .i64 s]
/-- A string's bytes. -/
def bs (s : ByteArray) : List Int := s.data.toList.map fun b => (b.toNat : Int)
theorem bs_len (s : ByteArray) : (bs s).length = s.size := by simp only [bs, List.length_map, Array.length_toList]; rfl
theorem bs_by (s : ByteArray) : By (bs s) := by
  intro x hx
  obtain ⟨b, -, rfl⟩ := List.mem_map.1 hx
  have := b.toNat_lt
  omega
theorem str_bs (s : ByteArray) : strOfNums (bs s) = s := by
  unfold strOfNums bs
  rw [List.map_map, show (fun n : Int => UInt8.ofNat n.toNat) ∘ (fun b : UInt8 => (b.toNat : Int)) = id from funext fun b => by simp, List.map_id]
theorem bs_str {l : List Int} (h : By l) : bs (strOfNums l) = l := by
  unfold bs
  rw [strOfNums_data, List.map_map]
  conv => rhs; rw [← List.map_id l]
  refine List.map_congr_left fun x hx => ?_
  have := h x hx
  simp
  omega
theorem str_inj {a b : List Int} (ha : By a) (hb : By b) (h : strOfNums a = strOfNums b) : a = b := by rw [← bs_str ha, ← bs_str hb, h]
theorem len3 {c : Int} : (1 ≤ c ∧ c ≤ 3) ↔ (c = 1 ∨ c = 2 ∨ c = 3) := by omega
set_option maxHeartbeats 4000000 in
theorem rightData_any (c l n : Int) (p : ByteArray) (s : Int) (w : World) (_hp : p.size ≤ 9223372036854775807) :
    Calls Try.prog 71 #[DV c l n p s] w fun e w' => e = .returned (.bool (decide (rightD c l n (bs p) s))) ∧ Below w.heap.size w w' := by
  have hbl := bs_len p
  by_cases hk : c = 1 ∨ c = 2 ∨ c = 3
  · rcases hk with rfl | rfl | rfl
    · skip
      by_cases h0 : 0 ≤ l
      · skip
        by_cases h1 : l ≤ 255
        · skip
          by_cases h2 : 0 ≤ n
          · skip
            by_cases h3 : n ≤ 2147483647
            · skip
              by_cases h4 : 64 ≤ s
              · skip
                by_cases h5 : s ≤ 1518
                · skip
                  by_cases h6 : (p.size : Int) ≤ s - 10 - 4
                  · skip
                    have HV := Lib.hid (show decide (rightD 1 l n (bs p) s) = true from decide_eq_true (by unfold rightD; omega))
                    go_enter Try.func71, Try.ntmps71
                    go_wp2
                    go_ret
                    exact ⟨by rw [HV.out]; rfl, al (Below.refl _ _) _⟩
                  · skip
                    have HV := Lib.hid (show decide (rightD 1 l n (bs p) s) = false from decide_eq_false (by unfold rightD; omega))
                    go_enter Try.func71, Try.ntmps71
                    go_wp2
                    go_ret
                    exact ⟨by rw [HV.out]; rfl, al (Below.refl _ _) _⟩
                · skip
                  have HV := Lib.hid (show decide (rightD 1 l n (bs p) s) = false from decide_eq_false (by unfold rightD; omega))
                  go_enter Try.func71, Try.ntmps71
                  go_wp2
                  go_ret
                  exact ⟨by rw [HV.out]; rfl, al (Below.refl _ _) _⟩
              · skip
                have HV := Lib.hid (show decide (rightD 1 l n (bs p) s) = false from decide_eq_false (by unfold rightD; omega))
                go_enter Try.func71, Try.ntmps71
                go_wp2
                go_ret
                exact ⟨by rw [HV.out]; rfl, al (Below.refl _ _) _⟩
            · skip
              have HV := Lib.hid (show decide (rightD 1 l n (bs p) s) = false from decide_eq_false (by unfold rightD; omega))
              go_enter Try.func71, Try.ntmps71
              go_wp2
              go_ret
              exact ⟨by rw [HV.out]; rfl, al (Below.refl _ _) _⟩
          · skip
            have HV := Lib.hid (show decide (rightD 1 l n (bs p) s) = false from decide_eq_false (by unfold rightD; omega))
            go_enter Try.func71, Try.ntmps71
            go_wp2
            go_ret
            exact ⟨by rw [HV.out]; rfl, al (Below.refl _ _) _⟩
        · skip
          have HV := Lib.hid (show decide (rightD 1 l n (bs p) s) = false from decide_eq_false (by unfold rightD; omega))
          go_enter Try.func71, Try.ntmps71
          go_wp2
          go_ret
          exact ⟨by rw [HV.out]; rfl, al (Below.refl _ _) _⟩
      · skip
        have HV := Lib.hid (show decide (rightD 1 l n (bs p) s) = false from decide_eq_false (by unfold rightD; omega))
        go_enter Try.func71, Try.ntmps71
        go_wp2
        go_ret
        exact ⟨by rw [HV.out]; rfl, al (Below.refl _ _) _⟩
    · skip
      by_cases h0 : 0 ≤ l
      · skip
        by_cases h1 : l ≤ 255
        · skip
          by_cases h2 : 0 ≤ n
          · skip
            by_cases h3 : n ≤ 2147483647
            · skip
              by_cases h4 : 64 ≤ s
              · skip
                by_cases h5 : s ≤ 1518
                · skip
                  by_cases h6 : (p.size : Int) ≤ s - 10 - 4
                  · skip
                    have HV := Lib.hid (show decide (rightD 2 l n (bs p) s) = true from decide_eq_true (by unfold rightD; omega))
                    go_enter Try.func71, Try.ntmps71
                    go_wp2
                    go_ret
                    exact ⟨by rw [HV.out]; rfl, al (Below.refl _ _) _⟩
                  · skip
                    have HV := Lib.hid (show decide (rightD 2 l n (bs p) s) = false from decide_eq_false (by unfold rightD; omega))
                    go_enter Try.func71, Try.ntmps71
                    go_wp2
                    go_ret
                    exact ⟨by rw [HV.out]; rfl, al (Below.refl _ _) _⟩
                · skip
                  have HV := Lib.hid (show decide (rightD 2 l n (bs p) s) = false from decide_eq_false (by unfold rightD; omega))
                  go_enter Try.func71, Try.ntmps71
                  go_wp2
                  go_ret
                  exact ⟨by rw [HV.out]; rfl, al (Below.refl _ _) _⟩
              · skip
                have HV := Lib.hid (show decide (rightD 2 l n (bs p) s) = false from decide_eq_false (by unfold rightD; omega))
                go_enter Try.func71, Try.ntmps71
                go_wp2
                go_ret
                exact ⟨by rw [HV.out]; rfl, al (Below.refl _ _) _⟩
            · skip
              have HV := Lib.hid (show decide (rightD 2 l n (bs p) s) = false from decide_eq_false (by unfold rightD; omega))
              go_enter Try.func71, Try.ntmps71
              go_wp2
              go_ret
              exact ⟨by rw [HV.out]; rfl, al (Below.refl _ _) _⟩
          · skip
            have HV := Lib.hid (show decide (rightD 2 l n (bs p) s) = false from decide_eq_false (by unfold rightD; omega))
            go_enter Try.func71, Try.ntmps71
            go_wp2
            go_ret
            exact ⟨by rw [HV.out]; rfl, al (Below.refl _ _) _⟩
        · skip
          have HV := Lib.hid (show decide (rightD 2 l n (bs p) s) = false from decide_eq_false (by unfold rightD; omega))
          go_enter Try.func71, Try.ntmps71
          go_wp2
          go_ret
          exact ⟨by rw [HV.out]; rfl, al (Below.refl _ _) _⟩
      · skip
        have HV := Lib.hid (show decide (rightD 2 l n (bs p) s) = false from decide_eq_false (by unfold rightD; omega))
        go_enter Try.func71, Try.ntmps71
        go_wp2
        go_ret
        exact ⟨by rw [HV.out]; rfl, al (Below.refl _ _) _⟩
    · skip
      by_cases h0 : 0 ≤ l
      · skip
        by_cases h1 : l ≤ 255
        · skip
          by_cases h2 : 0 ≤ n
          · skip
            by_cases h3 : n ≤ 2147483647
            · skip
              by_cases h4 : 64 ≤ s
              · skip
                by_cases h5 : s ≤ 1518
                · skip
                  by_cases h6 : (p.size : Int) ≤ s - 10 - 4
                  · skip
                    have HV := Lib.hid (show decide (rightD 3 l n (bs p) s) = true from decide_eq_true (by unfold rightD; omega))
                    go_enter Try.func71, Try.ntmps71
                    go_wp2
                    go_ret
                    exact ⟨by rw [HV.out]; rfl, al (Below.refl _ _) _⟩
                  · skip
                    have HV := Lib.hid (show decide (rightD 3 l n (bs p) s) = false from decide_eq_false (by unfold rightD; omega))
                    go_enter Try.func71, Try.ntmps71
                    go_wp2
                    go_ret
                    exact ⟨by rw [HV.out]; rfl, al (Below.refl _ _) _⟩
                · skip
                  have HV := Lib.hid (show decide (rightD 3 l n (bs p) s) = false from decide_eq_false (by unfold rightD; omega))
                  go_enter Try.func71, Try.ntmps71
                  go_wp2
                  go_ret
                  exact ⟨by rw [HV.out]; rfl, al (Below.refl _ _) _⟩
              · skip
                have HV := Lib.hid (show decide (rightD 3 l n (bs p) s) = false from decide_eq_false (by unfold rightD; omega))
                go_enter Try.func71, Try.ntmps71
                go_wp2
                go_ret
                exact ⟨by rw [HV.out]; rfl, al (Below.refl _ _) _⟩
            · skip
              have HV := Lib.hid (show decide (rightD 3 l n (bs p) s) = false from decide_eq_false (by unfold rightD; omega))
              go_enter Try.func71, Try.ntmps71
              go_wp2
              go_ret
              exact ⟨by rw [HV.out]; rfl, al (Below.refl _ _) _⟩
          · skip
            have HV := Lib.hid (show decide (rightD 3 l n (bs p) s) = false from decide_eq_false (by unfold rightD; omega))
            go_enter Try.func71, Try.ntmps71
            go_wp2
            go_ret
            exact ⟨by rw [HV.out]; rfl, al (Below.refl _ _) _⟩
        · skip
          have HV := Lib.hid (show decide (rightD 3 l n (bs p) s) = false from decide_eq_false (by unfold rightD; omega))
          go_enter Try.func71, Try.ntmps71
          go_wp2
          go_ret
          exact ⟨by rw [HV.out]; rfl, al (Below.refl _ _) _⟩
      · skip
        have HV := Lib.hid (show decide (rightD 3 l n (bs p) s) = false from decide_eq_false (by unfold rightD; omega))
        go_enter Try.func71, Try.ntmps71
        go_wp2
        go_ret
        exact ⟨by rw [HV.out]; rfl, al (Below.refl _ _) _⟩
  · have hk1 : (c == 1) = false := by simp; omega
    have hk2 : (c == 2) = false := by simp; omega
    have hk3 : (c == 3) = false := by simp; omega
    have HV := Lib.hid (show decide (rightD c l n (bs p) s) = false from decide_eq_false (by unfold rightD; omega))
    go_enter Try.func71, Try.ntmps71
    go_wp2
    go_ret
    exact ⟨by rw [HV.out]; rfl, al (Below.refl _ _) _⟩
set_option maxHeartbeats 4000000 in
theorem refRightData_any (c l n : Int) (p : ByteArray) (s : Int) (w : World) (_hp : p.size ≤ 9223372036854775807) :
    Calls Try.prog 31 #[DV c l n p s] w fun e w' => e = .returned (.bool (decide (rightD c l n (bs p) s))) ∧ Below w.heap.size w w' := by
  have hbl := bs_len p
  by_cases h0 : 1 ≤ c
  · skip
    by_cases h1 : c ≤ 3
    · skip
      by_cases h2 : 0 ≤ l
      · skip
        by_cases h3 : l ≤ 255
        · skip
          by_cases h4 : 0 ≤ n
          · skip
            by_cases h5 : n ≤ 2147483647
            · skip
              by_cases h6 : 64 ≤ s
              · skip
                by_cases h7 : s ≤ 1518
                · skip
                  by_cases h8 : (p.size : Int) ≤ s - 14
                  · skip
                    have HV := Lib.hid (show decide (rightD c l n (bs p) s) = true from decide_eq_true (by unfold rightD; omega))
                    go_enter Try.func31, Try.ntmps31
                    go_wp2
                    go_ret
                    exact ⟨by rw [HV.out]; rfl, al (Below.refl _ _) _⟩
                  · skip
                    have HV := Lib.hid (show decide (rightD c l n (bs p) s) = false from decide_eq_false (by unfold rightD; omega))
                    go_enter Try.func31, Try.ntmps31
                    go_wp2
                    go_ret
                    exact ⟨by rw [HV.out]; rfl, al (Below.refl _ _) _⟩
                · skip
                  have HV := Lib.hid (show decide (rightD c l n (bs p) s) = false from decide_eq_false (by unfold rightD; omega))
                  go_enter Try.func31, Try.ntmps31
                  go_wp2
                  go_ret
                  exact ⟨by rw [HV.out]; rfl, al (Below.refl _ _) _⟩
              · skip
                have HV := Lib.hid (show decide (rightD c l n (bs p) s) = false from decide_eq_false (by unfold rightD; omega))
                go_enter Try.func31, Try.ntmps31
                go_wp2
                go_ret
                exact ⟨by rw [HV.out]; rfl, al (Below.refl _ _) _⟩
            · skip
              have HV := Lib.hid (show decide (rightD c l n (bs p) s) = false from decide_eq_false (by unfold rightD; omega))
              go_enter Try.func31, Try.ntmps31
              go_wp2
              go_ret
              exact ⟨by rw [HV.out]; rfl, al (Below.refl _ _) _⟩
          · skip
            have HV := Lib.hid (show decide (rightD c l n (bs p) s) = false from decide_eq_false (by unfold rightD; omega))
            go_enter Try.func31, Try.ntmps31
            go_wp2
            go_ret
            exact ⟨by rw [HV.out]; rfl, al (Below.refl _ _) _⟩
        · skip
          have HV := Lib.hid (show decide (rightD c l n (bs p) s) = false from decide_eq_false (by unfold rightD; omega))
          go_enter Try.func31, Try.ntmps31
          go_wp2
          go_ret
          exact ⟨by rw [HV.out]; rfl, al (Below.refl _ _) _⟩
      · skip
        have HV := Lib.hid (show decide (rightD c l n (bs p) s) = false from decide_eq_false (by unfold rightD; omega))
        go_enter Try.func31, Try.ntmps31
        go_wp2
        go_ret
        exact ⟨by rw [HV.out]; rfl, al (Below.refl _ _) _⟩
    · skip
      have HV := Lib.hid (show decide (rightD c l n (bs p) s) = false from decide_eq_false (by unfold rightD; omega))
      go_enter Try.func31, Try.ntmps31
      go_wp2
      go_ret
      exact ⟨by rw [HV.out]; rfl, al (Below.refl _ _) _⟩
  · skip
    have HV := Lib.hid (show decide (rightD c l n (bs p) s) = false from decide_eq_false (by unfold rightD; omega))
    go_enter Try.func31, Try.ntmps31
    go_wp2
    go_ret
    exact ⟨by rw [HV.out]; rfl, al (Below.refl _ _) _⟩
end Go.Proofs.Ytnlimdlmhfnkiaa.FrameW

