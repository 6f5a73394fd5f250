/- A copy that is turned in one place; what Check then tells. -/
import Derived.Test.YtmagjekmlnpfpaaGreatConfLay
import Derived.Test.YtmagjekmlnpfpaaGreatConfNJa
namespace Go.Proofs.YtmagjekmlnpfpaaGreat.ConfW
open Go.RowKit Shell
theorem chk_ok {c : Cfg} (h : chk c = 0) : btw c.hosts 1 6 = true ∧ btw c.cycle 1 1073741824 = true ∧ spansT c = true ∧ rowsOk c = true ∧ entOk c = true ∧ phOk c = true ∧ linkOk c = true := by
  unfold chk at h
  cases b1 : btw c.hosts 1 6 <;> rw [b1] at h <;> simp only [Bool.false_eq_true, if_false, if_true] at h
  · omega
  cases b2 : btw c.cycle 1 1073741824 <;> rw [b2] at h <;> simp only [Bool.false_eq_true, if_false, if_true] at h
  · omega
  cases b3 : spansT c <;> rw [b3] at h <;> simp only [Bool.false_eq_true, if_false, if_true] at h
  · omega
  cases b4 : rowsOk c <;> rw [b4] at h <;> simp only [Bool.false_eq_true, if_false, if_true] at h
  · omega
  cases b5 : entOk c <;> rw [b5] at h <;> simp only [Bool.false_eq_true, if_false, if_true] at h
  · omega
  cases b6 : phOk c <;> rw [b6] at h <;> simp only [Bool.false_eq_true, if_false, if_true] at h
  · omega
  cases b7 : prs snd c.entries <;> rw [b7] at h <;> simp only [Bool.false_eq_true, if_false, if_true] at h
  · cases b8 : prs (rcv c) c.entries <;> rw [b8] at h <;> simp only [Bool.false_eq_true, if_false, if_true] at h
    · cases b9 : linkOk c <;> rw [b9] at h <;> simp only [Bool.false_eq_true, if_false, if_true] at h
      · omega
      · exact ⟨rfl, rfl, rfl, rfl, rfl, rfl, rfl⟩
    · omega
  · omega
end Go.Proofs.YtmagjekmlnpfpaaGreat.ConfW


