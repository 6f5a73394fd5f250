/- Rows of one's own that are written over: what stays. -/
import Derived.Test.YtecgpibidcifpaaConfCpA
import Derived.Test.YtecgpibidcifpaaConfY
namespace Go.Proofs.Ytecgpibidcifpaa.ConfW
open Go.RowKit Shell
/-- Only in blocks from lo up to hi has anything turned, and each of them is as long as it was. -/
structure Sh (lo hi : Nat) (w0 w : World) : Prop where
  os : w.os = w0.os
  tape : w.tape = w0.tape
  output : w.output = w0.output
  size : w.heap.size = w0.heap.size
  out : ∀ j, j < lo ∨ hi ≤ j → w.heap[j]? = w0.heap[j]?
  inn : ∀ (j : Nat) (cs : Array Value) (t : TypeId), lo ≤ j → j < hi → w0.heap[j]? = some (.cells cs t (0, 0)) → ∃ cs' : Array Value, w.heap[j]? = some (.cells cs' t (0, 0)) ∧ cs'.size = cs.size
theorem Sh.refl (lo hi : Nat) (w : World) : Sh lo hi w w := ⟨rfl, rfl, rfl, rfl, fun _ _ => rfl, fun _ cs _ _ _ h => ⟨cs, h, rfl⟩⟩
theorem Sh.set {lo hi : Nat} {w0 w : World} (h : Sh lo hi w0 w) {g : Nat} (h1 : lo ≤ g) (h2 : g < hi) (i : Nat) (v : Value) : Sh lo hi w0 (w.setCell ⟨g, i, none⟩ v) := by
  refine ⟨h.os, h.tape, h.output, by rw [World.size_setCell]; exact h.size, ?_, ?_⟩
  · intro j hj
    rw [heap_setCell_other _ _ _ _ (show j ≠ g by omega)]
    exact h.out j hj
  · intro j cs t q1 q2 hc
    obtain ⟨cs', h3, h4⟩ := h.inn j cs t q1 q2 hc
    by_cases e : j = g
    · subst e
      exact ⟨_, heap_setCell_same w j i cs' t v h3, by simpa using h4⟩
    · rw [heap_setCell_other _ _ _ _ (show j ≠ g by omega)]
      exact ⟨cs', h3, h4⟩
theorem Sh.cell {lo hi b size n : Nat} {e : TypeId} {v : Value} {xs : List Value} {w0 w : World} (h : Sh lo hi w0 w) (o : w0.ownsRow b e size v n xs) (hb : lo ≤ b) (hh : ∀ g, v.ownBlock = some g → g < hi) {j : Nat} {u : Value} (hu : xs[j]? = some u) :
    ∃ g cap u', v = .slice (some ⟨g, 0, none⟩) n cap ∧ lo ≤ g ∧ g < hi ∧ w.cell? ⟨g, j, none⟩ = some u' ∧ w.frozen? ⟨g, j, none⟩ = false := by
  have hj := lt_of_get hu
  rcases o.2 with ⟨h1, h2⟩ | ⟨g, cap, cur, h1, h2, h3, h4, h5, h6, h7⟩
  · have h3 := o.1
    rw [h2] at h3
    omega
  · have hg : g < hi := hh g (by rw [h1]; rfl)
    obtain ⟨cs', h8, h9⟩ := h.inn g cur e (by omega) hg h3
    have hjc : j < cs'.size := by
      rw [h9]
      rw [← h7, List.getElem?_take_of_lt (by rw [← o.1]; exact hj), Array.getElem?_toList] at hu
      rcases Nat.lt_or_ge j cur.size with h | h
      · exact h
      · rw [Array.getElem?_eq_none h] at hu; cases hu
    exact ⟨g, cap, cs'[j], h1, by omega, hg, by rw [cell_of_row w g j cs' e _ h8, Array.getElem?_eq_getElem hjc], frozen_of_row w g j cs' e h8⟩
theorem Sh.up {lo hi : Nat} {w0 w : World} (h : Sh lo hi w0 w) : Up hi w0 w := ⟨Nat.le_of_eq h.size.symm, fun j hj _ => h.out j (Or.inr hj)⟩
theorem Sh.below {lo hi B : Nat} {w0 w : World} (h : Sh lo hi w0 w) (hB : B ≤ lo) : Below B w0 w := ⟨h.os, h.tape, h.output, Nat.le_of_eq h.size.symm, fun j hj => h.out j (Or.inl (by omega))⟩
theorem Dup.next {w w' : World} {lo gd : Nat} {c : Cfg} {vs : List Value} {vE vL : Value} (h : Dup w lo c gd vs vE vL) (b : Below w.heap.size w w') : Dup w' lo c gd vs vE vL :=
  ⟨h.hg, row_below b h.hd, h.len, fun j r hj => by obtain ⟨v, h1, h2⟩ := h.row j r hj; exact ⟨v, h1, own_up h2 (Nat.le_refl _) (Up.of _ b)⟩, h.far, own_up h.ent (Nat.le_refl _) (Up.of _ b), own_up h.lnk (Nat.le_refl _) (Up.of _ b)⟩
end Go.Proofs.Ytecgpibidcifpaa.ConfW

