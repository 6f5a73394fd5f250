/- Walks over rows: Of, in, Common, Same; the document's own Of. -/
import Derived.Test.YtdaoemjkefpmcaaCrewA
namespace Go.Proofs.Ytdaoemjkefpmcaa.CrewW
open Go.RowKit Shell
/-- Crews as whole numbers. -/
def up (l : List Nat) : List Int := l.map fun c : Nat => (c : Int)
theorem contains_take {l : List Int} {h : Int} (hn : ∀ (i : Nat) (x : Int), l[i]? = some x → x ≠ h) : l.contains h = false := by
  rw [← Bool.not_eq_true, List.contains_iff_mem]
  intro hm
  obtain ⟨i, hi⟩ := List.getElem?_of_mem hm
  exact hn i h hi rfl
theorem pow_bound (k : Nat) (h : k < 6) : 2 ^ k ≤ 32 := by
  have : 2 ^ k ≤ 2 ^ 5 := Nat.pow_le_pow_right (by decide) (by omega)
  omega
set_option maxHeartbeats 2000000 in
theorem refOf_any (A : Option Addr) (n c : Nat) (xs : List Int) (w : World) (h : CL w .i64 A xs) (hn : n = xs.length) (hl : n ≤ 9223372036854775807) :
    Calls Try.prog 44 #[.slice A n c] w fun e w' => e = .returned (.int .u32 (of xs : Nat)) ∧ w' = w := by
  have H := Lib.hid h
  have HL := Lib.hid hl
  have HN := Lib.hid hn
  clear h hl hn
  have HM := Lib.hid (show mk (fun h => xs.contains (h : Int)) 6 = of xs from rfl)
  obtain ⟨p, hp⟩ : ∃ p : Nat → Bool, p = fun h : Nat => xs.contains (h : Int) := ⟨_, rfl⟩
  have HP := Lib.hid (fun h : Nat => congrFun hp h)
  rw [← hp] at HM
  clear hp
  go_enter Try.func44, Try.ntmps44
  go_wp2
  go_loopw [3, 4, 5] (fun cv bv hv wr => ∃ (k : Nat), k ≤ 6 ∧ hv = .int .i64 k ∧ cv = .int .u32 (mk p k : Nat) ∧ bv = .int .u32 ((2 ^ k : Nat) : Int) ∧ wr = w) (fun _ _ hv _ => 6 - (intOf hv).toNat)
  case atStart => exact ⟨0, Nat.zero_le _, rfl, rfl, rfl, rfl⟩
  case round =>
    obtain ⟨k, hk, rfl, rfl, rfl, rfl⟩ := hrel
    have hll := HL.out
    by_cases hlt : (k : Int) < 6
    · have l1 := mk_lt p k
      have l2 := pow_bound k (by omega)
      have HA := Lib.hid (fun h : p k = true => mk_add h)
      have HS := Lib.hid (fun h : p k = false => mk_same h)
      have HQ := Lib.hid (show (2 : Nat) ^ (k + 1) = 2 ^ k * 2 from Nat.pow_succ 2 k)
      have HK := Lib.hid (HP.out k)
      generalize mk p k = m at *
      generalize 2 ^ k = b at *
      obtain ⟨w0, hw0⟩ : ∃ w0, w0 = wr := ⟨_, rfl⟩
      subst hw0
      go_wp2
      go_loopw [3, 6] (fun cv iv wr => ∃ (i : Nat), i ≤ n ∧ iv = .int .i64 i ∧ cv = .int .u32 (m : Int) ∧ wr = w0 ∧ Hid (∀ j x, j < i → xs[j]? = some x → x ≠ (k : Int))) (fun _ iv _ => n - (intOf iv).toNat)
      case atStart => exact ⟨0, Nat.zero_le _, rfl, rfl, rfl, Lib.hid (fun j x hj _ => by omega)⟩
      case round =>
        obtain ⟨i, hi, rfl, rfl, rfl, HI⟩ := hrel
        by_cases hlt2 : i < n
        · obtain ⟨x, hx⟩ : ∃ x, xs[i]? = some x := ⟨_, List.getElem?_eq_getElem (by rw [← HN.out]; exact hlt2)⟩
          obtain ⟨ad, rfl, hcell, _⟩ := H.out i x hx
          have HX := Lib.hid hx
          clear hx
          by_cases he : x = (k : Int)
          · have hpt : p k = true := by rw [HK.out, List.contains_iff_mem, ← he]; exact List.mem_of_getElem? HX.out
            have HA2 := Lib.hid (HA.out hpt)
            clear hpt
            subst he
            go_wp2
            exact ⟨⟨k + 1, by omega, by go_num, by rw [← HA2.out]; go_num, by rw [HQ.out]; go_num, trivial⟩, by simp [intOf]; omega⟩
          · have he2 : (x == (k : Int)) = false := by rw [beq_eq_false_iff_ne]; exact he
            have HI2 := Lib.hid (show ∀ (j : Nat) (y : Int), j < i + 1 → xs[j]? = some y → y ≠ (k : Int) by
              intro j y hj hy
              by_cases hji : j = i
              · subst hji
                rw [HX.out] at hy
                cases hy
                exact he
              · exact HI.out j y (by omega) hy)
            clear he
            go_wp2
            go_roundw
            case rel => exact ⟨i + 1, by omega, by go_num, rfl, trivial, HI2⟩
            case measure => simp [intOf]; omega
        · obtain rfl : i = n := by omega
          have hpf : p k = false := by
            rw [HK.out]
            refine contains_take fun j x hj => HI.out j x ?_ hj
            rw [HN.out]
            exact lt_of_get hj
          have HA2 := Lib.hid (HS.out hpf)
          clear hpf
          go_wp2
          exact ⟨⟨k + 1, by omega, by go_num, by rw [← HA2.out], by rw [HQ.out]; go_num, trivial⟩, by simp [intOf]; omega⟩
    · obtain rfl : k = 6 := by omega
      rw [HM.out]
      go_wp2
      go_ret
      exact ⟨rfl, rfl⟩
end Go.Proofs.Ytdaoemjkefpmcaa.CrewW

