/- Walks over rows: Of, in, Common, Same; the document's own Of. -/
import Derived.Test.YthgfgnphncpoaaaCrewA
namespace Go.Proofs.Ythgfgnphncpoaaa.CrewW
open Go.RowKit Shell
/-- Crews as whole numbers. -/
def up (l : List Nat) : List Int := l.map fun c : Nat => (c : Int)
theorem of_take {l : List Int} {k : Nat} {x : Int} (h : l[k]? = some x) : of (l.take (k + 1)) = of (l.take k) ||| only x := by
  rw [List.take_add_one, h]
  exact of_snoc _ _
set_option maxHeartbeats 1000000 in
theorem of_any (A : Option Addr) (n c : Nat) (xs : List Int) (w : World) (h : CL w .i64 A xs) (hn : n = xs.length) (hl : n ≤ 9223372036854775807) :
    Calls Try.prog 49 #[.slice A n c] w fun e w' => e = .returned (.int .u32 (of xs : Nat)) ∧ w' = w := by
  have H := Lib.hid h
  have HL := Lib.hid hl
  have HN := Lib.hid hn
  clear h hl hn
  go_enter Try.func49, Try.ntmps49
  go_wp2
  go_loopw [3, 8] (fun cv iv wr => ∃ (k : Nat), k ≤ n ∧ iv = .int .i64 k ∧ cv = .int .u32 (of (xs.take k) : Nat) ∧ wr = w) (fun _ iv _ => n - (intOf iv).toNat)
  case atStart => exact ⟨0, Nat.zero_le _, rfl, rfl, rfl⟩
  case round =>
    obtain ⟨k, hk, rfl, rfl, rfl⟩ := hrel
    have hll := HL.out
    by_cases hlt : k < n
    · obtain ⟨x, hx⟩ : ∃ x, xs[k]? = some x := ⟨_, List.getElem?_eq_getElem (by rw [← HN.out]; exact hlt)⟩
      obtain ⟨ad, rfl, hcell, _⟩ := H.out k x hx
      have HT := Lib.hid (of_take hx)
      have l1 := of_lt (xs.take k)
      have HB := Lib.hid (u32_or_nat (of (xs.take k)) (only x) (by omega) (by have := only_lt x; omega))
      have HO := fun W => only_any x W
      clear hx l1
      generalize of (xs.take k) = a at *
      generalize only x = o at *
      go_wp2_with fail
      refine (HO _).mono ?_
      rintro e w9 ⟨rfl, hw⟩
      obtain rfl := hw.symm
      go_wp2
      rw [HB.out]
      go_roundw
      case rel => exact ⟨k + 1, by omega, by go_num, by rw [HT.out], trivial⟩
      case measure => simp [intOf]; omega
    · obtain rfl : k = n := by omega
      have e := HN.out
      rw [List.take_of_length_le (by omega)]
      clear e
      go_wp2
      go_ret
      exact ⟨rfl, rfl⟩
end Go.Proofs.Ythgfgnphncpoaaa.CrewW

