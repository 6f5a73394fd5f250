/- A row of three whole numbers, where it lies. -/
import Derived.Test.YtmkgnkbcdkcboaaOpen
namespace Go.Proofs.Ytmkgnkbcdkcboaa.Shell
open Go.ChangeShapes Go.WideShapes Go.ChangeAt Go.RowKit
theorem RL.row3 {w : World} {q0 q1 q2 : IntKind} {A : Option Addr} {rows : List (List Int)} (h : RL w [q0, q1, q2] A rows) {k : Nat} {xs : List Int} (hk : rows[k]? = some xs) :
    ∃ b off x y z, A = some ⟨b, off, none⟩ ∧ xs = [x, y, z] ∧ w.cell? ⟨b, off + k * 3, none⟩ = some (.int q0 x) ∧ w.cell? ⟨b, off + k * 3 + 1, none⟩ = some (.int q1 y) ∧ w.cell? ⟨b, off + k * 3 + 2, none⟩ = some (.int q2 z) ∧
      (Lit.int q0 x).wf = true ∧ (Lit.int q1 y).wf = true ∧ (Lit.int q2 z).wf = true := by
  obtain ⟨hl, ⟨b, off, spot⟩, rfl, hc⟩ := h k xs hk
  obtain ⟨x, y, z, rfl⟩ := len3 hl
  have h0 := hc 0 q0 x rfl rfl
  have h1 := hc 1 q1 y rfl rfl
  have h2 := hc 2 q2 z rfl rfl
  have hspot : spot = none := by
    have hlt : k < rows.length := (List.getElem?_eq_some_iff.1 hk).1
    obtain ⟨hl', a', ha', hc'⟩ := h 0 _ (List.getElem?_eq_getElem (show 0 < rows.length by omega))
    obtain ⟨u, v, z', hu⟩ := len3 hl'
    rw [hu] at hc'
    cases ha'
    have h3 := World.cell?_spot (hc' 0 q0 u rfl rfl).1
    simpa [Addr.add] using h3
  subst hspot
  have e : ∀ i, (⟨b, off, none⟩ : Addr).add (k * [q0, q1, q2].length + i) = ⟨b, off + k * 3 + i, none⟩ := fun i => by unfold Addr.add; split <;> simp_all; omega
  rw [e] at h0 h1 h2
  exact ⟨b, off, x, y, z, rfl, rfl, h0.1, h1.1, h2.1, h0.2, h1.2, h2.2⟩
end Go.Proofs.Ytmkgnkbcdkcboaa.Shell
