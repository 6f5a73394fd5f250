/- A copy that is turned in one place; what Check then tells. -/
import Derived.Test.YtnlimdlmhfnkiaaConfLay
import Derived.Test.YtnlimdlmhfnkiaaConfNJa
namespace Go.Proofs.Ytnlimdlmhfnkiaa.ConfW
open Go.RowKit Shell
theorem Dup.below {w w1 : World} {lo gd : Nat} {c : Cfg} {vs : List Value} {vE vL : Value} (h : Dup w lo c gd vs vE vL) (b : Below w.heap.size w w1) : Dup w1 lo c gd vs vE vL :=
  ⟨h.hg, row_below b h.hd, h.len, fun j r hj => by
    obtain ⟨v, hv, ho⟩ := h.row j r hj
    exact ⟨v, hv, own_up ho (Nat.le_refl _) (Up.of _ b)⟩, h.far, own_up h.ent (Nat.le_refl _) (Up.of _ b), own_up h.lnk (Nat.le_refl _) (Up.of _ b)⟩
theorem chk_ok {c : Cfg} (h : chk c = 0) : btw c.hosts 1 6 = true ∧ btw c.cycle 1 1073741824 = true ∧ spansT c = true ∧ rowsOk c = true ∧ entOk c = true ∧ phOk c = true ∧ linkOk c = true := by
  unfold chk at h
  cases b1 : btw c.hosts 1 6 <;> rw [b1] at h <;> simp only [Bool.false_eq_true, if_false, if_true] at h
  · omega
  cases b2 : btw c.cycle 1 1073741824 <;> rw [b2] at h <;> simp only [Bool.false_eq_true, if_false, if_true] at h
  · omega
  cases b3 : spansT c <;> rw [b3] at h <;> simp only [Bool.false_eq_true, if_false, if_true] at h
  · omega
  cases b4 : rowsOk c <;> rw [b4] at h <;> simp only [Bool.false_eq_true, if_false, if_true] at h
  · omega
  cases b5 : entOk c <;> rw [b5] at h <;> simp only [Bool.false_eq_true, if_false, if_true] at h
  · omega
  cases b6 : phOk c <;> rw [b6] at h <;> simp only [Bool.false_eq_true, if_false, if_true] at h
  · omega
  cases b7 : prs snd c.entries <;> rw [b7] at h <;> simp only [Bool.false_eq_true, if_false, if_true] at h
  · cases b8 : prs (rcv c) c.entries <;> rw [b8] at h <;> simp only [Bool.false_eq_true, if_false, if_true] at h
    · cases b9 : linkOk c <;> rw [b9] at h <;> simp only [Bool.false_eq_true, if_false, if_true] at h
      · omega
      · exact ⟨rfl, rfl, rfl, rfl, rfl, rfl, rfl⟩
    · omega
  · omega
/-- In a configuration that may be, how much there is. -/
theorem few {w : World} (c : Cfg) (D E L : Option Addr) (nd cd ne ce nl cl : Nat) (h : CM w c D E L nd cd ne ce nl cl) (hz : chk c = 0) : nd ≤ 6 ∧ ne ≤ 16 ∧ nl ≤ 16 ∧ (nd : Int) = c.hosts ∧ ∀ r ∈ c.delays, r.length = 2 := by
  obtain ⟨b1, b2, b3, b4, b5, b6, b9⟩ := chk_ok hz
  unfold rowsOk at b4
  unfold linkOk at b9
  rw [Bool.and_eq_true, decide_eq_true_eq] at b4 b9
  have h1 := btw_iff.1 b1
  have h5 := (entOk_iff.1 b5).1
  have n1 := h.nD
  have n2 := h.nE
  have n3 := h.nL
  refine ⟨by omega, by omega, by have := b9.1; omega, by rw [n1]; exact b4.1, fun r hr => ?_⟩
  have := List.all_eq_true.1 b4.2 r hr
  unfold rowOk at this
  rw [Bool.and_eq_true, decide_eq_true_eq] at this
  exact this.1
end Go.Proofs.Ytnlimdlmhfnkiaa.ConfW

