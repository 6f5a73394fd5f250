/- The document's own ReadControl. -/
import Derived.Test.YtnlimdlmhfnkiaaFrameLayJa
namespace Go.Proofs.Ytnlimdlmhfnkiaa.FrameW
open Go.RowKit
set_option maxRecDepth 100000 in
theorem sl2 {l : List Int} {x y : Int} (h0 : l[0]? = some x) (h1 : l[1]? = some y) : sl l 0 2 = [x, y] := by
  match l, h0, h1 with
  | a :: b :: r, h0, h1 =>
    simp at h0 h1
    subst h0; subst h1
    rfl
set_option maxRecDepth 100000 in
theorem sl1 {l : List Int} {p : Nat} {x : Int} (h : l[p]? = some x) : sl l p (p + 1) = [x] := by
  unfold sl
  have hj : p < l.length := by
    rcases Nat.lt_or_ge p l.length with h1 | h1
    · exact h1
    · rw [List.getElem?_eq_none h1] at h; cases h
  rw [List.getElem?_eq_getElem hj] at h
  rw [List.drop_eq_getElem_cons hj, Option.some.inj h, show p + 1 - p = 1 by omega]
  rfl
set_option maxRecDepth 100000 in
theorem val1 {x : Int} (h : 0 ≤ x) : ((val [x] : Nat) : Int) = x := by
  show (((0 * 256 + x.toNat : Nat)) : Int) = x
  omega
set_option maxRecDepth 100000 in
theorem wh_yes {l : List Int} {x y : Int} (h0 : l[0]? = some x) (h1 : l[1]? = some y) (hl : 2 ≤ l.length) : (wh l = 1 ↔ x = 137 ∧ y = 29) ∧ (wh l = 2 ↔ x = 8 ∧ y = 0) := by
  unfold wh
  rw [if_pos hl, sl2 h0 h1]
  constructor
  · constructor
    · intro h
      split at h
      · rename_i h2; simp at h2; exact h2
      · split at h <;> cases h
    · rintro ⟨rfl, rfl⟩; rw [if_pos rfl]
  · constructor
    · intro h
      split at h
      · cases h
      · split at h
        · rename_i h2; simp at h2; exact h2
        · cases h
    · rintro ⟨rfl, rfl⟩; rw [if_neg (by decide), if_pos rfl]
set_option maxRecDepth 100000 in
theorem okS_iff {l : List Int} : okS l = true ↔ val (sl l (l.length - 4) l.length) = crc (sl l 0 (l.length - 4)) := by unfold okS; rw [decide_eq_true_iff]
set_option maxRecDepth 100000 in
theorem rd_form {l : List Int} (h : (l.length : Int) < 64 ∨ (l.length : Int) > 1518 ∨ wh l ≠ 2) : rdE l = 2 ∧ rdV l = DZ := by
  have e := chk_form h
  obtain ⟨a, b⟩ := rd_no (l := l) (by rw [e]; decide)
  exact ⟨by rw [a, e], b⟩
end Go.Proofs.Ytnlimdlmhfnkiaa.FrameW

