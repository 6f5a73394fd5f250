/- A slice of structs at any place of a block of one's own: its head moved out (what slices.Delete does). All programs at once. -/
import Derived.Test.YtpliidkfllacpaaRowO
import Derived.Laws.IdiomCopy
namespace Go.Proofs.Ytpliidkfllacpaa.Shell
open Go.ChangeShapes Go.WideShapes Go.ChangeAt Go.RowKit
section
variable {α : Type} {F : Flat α}
/-- Cells written over within the room of the slice: they are there still. -/
theorem la_there_set {w : World} {g off cap : Nat} {L : List α} (h : LA F w g off cap L) (o : Nat) (vs : List Value) (hv : o + vs.length ≤ cap * F.n) :
    ∀ j, j < cap * F.n → ((w.setCells g (off + o) vs).cell? ⟨g, off + j, none⟩).isSome = true ∧ (w.setCells g (off + o) vs).frozen? ⟨g, off + j, none⟩ = false := by
  intro j hj
  have hcs : ∀ i, i < vs.length → (w.cell? ⟨g, off + o + i, none⟩).isSome = true := fun i hi => by
    rw [Nat.add_assoc]; exact (h.there (o + i) (by omega)).1
  refine ⟨?_, (World.frozen?_setCells g _ _ _ _).trans (h.there j hj).2⟩
  by_cases hin : o ≤ j ∧ j < o + vs.length
  · have hx : j - o < vs.length := by omega
    have := World.cell?_setCells_in g vs (off + o) w hcs (j - o) hx
    rw [show off + o + (j - o) = off + j by omega] at this
    rw [this]
    rfl
  · rw [World.cell?_setCells_out g _ _ _ _ (fun _ _ => by show off + j < off + o ∨ off + o + vs.length ≤ off + j; omega)]
    exact (h.there j hj).1
theorem la_row_lt {w : World} {g off cap : Nat} {L : List α} {y : α} (h : LA F w g off cap (y :: L)) : L.length * F.n + F.n ≤ cap * F.n := by
  have := Nat.mul_le_mul_right F.n h.le
  rwa [List.length_cons, Nat.add_mul, Nat.one_mul] at this
/-- The rest moved to the front. -/
theorem la_front {w : World} {g off cap : Nat} {L : List α} {y : α} (h : LA F w g off cap (y :: L)) : LA F (w.setCells g off (F.fl L)) g off cap L := by
  have hr := la_row_lt h
  have hl := fl_len F L
  have ht := la_there_set h 0 (F.fl L) (by omega)
  rw [Nat.add_zero] at ht
  refine ⟨by have := h.le; rw [List.length_cons] at this; omega, h.max, Nat.lt_of_lt_of_le h.lt (kept_cells (Kept.of (Below.refl _ _)) _ _ : Kept g w _).size, fun j u hj => ?_, ht⟩
  have hx : j < (F.fl L).length := lt_of_get hj
  have := World.cell?_setCells_in g (F.fl L) off w (fun i hi => (h.there i (by omega)).1) j hx
  rw [this, ← hj, List.getElem?_eq_getElem hx]
/-- Written over behind its end. -/
theorem la_clear {w : World} {g off cap n : Nat} {L : List α} (h : LA F w g off cap L) (hn : L.length = n) (hr : n * F.n + F.n ≤ cap * F.n) (vs : List Value) (hv : vs.length = F.n) : LA F (w.setCells g (off + n * F.n) vs) g off cap L := by
  have hl := fl_len F L
  rw [hn] at hl
  refine ⟨h.le, h.max, Nat.lt_of_lt_of_le h.lt (kept_cells (Kept.of (Below.refl _ _)) _ _ : Kept g w _).size, fun j u hj => ?_, la_there_set h (n * F.n) vs (by omega)⟩
  have hx : j < (F.fl L).length := lt_of_get hj
  rw [World.cell?_setCells_out g _ _ _ _ (fun _ _ => Or.inl (by show off + j < off + n * F.n; omega))]
  exact h.holds j u hj
theorem la_drew {w : World} {g off cap : Nat} {L : List α} (h : LA F w g off cap L) : LA F w.drew g off cap L := h.of_block rfl (Nat.le_refl _)
end
section
variable {P : Program}
theorem zero_one (z : Array Value) : (Builtin.zeroCells z 1).toList = z.toList := by
  unfold Builtin.zeroCells
  apply List.ext_getElem
  · simp
  · intro i h1 h2
    simp at h1 h2 ⊢
    rw [Nat.mod_eq_of_lt h2, getElem!_pos z i h2]
/-- clear of a slice of one struct. -/
theorem run_clear_one (w : World) (t e ty : TypeId) (z : Value) (vs : List Value) (ht : P.underlying t = some (.slice e)) (hv : ∀ w, (zeroValue e).run P w = .ok z w) (hz : z.cells.toList = vs) (h1 : ∀ u ∈ vs, u.oneCell' = true) (b o c : Nat)
    (hc : ∀ j, j < vs.length → (w.cell? ⟨b, o + j, none⟩).isSome = true) (hf : ∀ j, j < vs.length → w.frozen? ⟨b, o + j, none⟩ = false) :
    (Builtin.clear_ #[t] ty #[.slice (some ⟨b, o, none⟩) 1 c]).run P w = .ok (.tuple #[]) (w.setCells b o vs) := by
  have hst := run_storeCells_cells (P := P) b o vs 0 w (by simpa using hc) (by simpa using hf) h1
  simp only [Nat.add_zero] at hst
  simp [Builtin.clear_, run_underlying ht, hv, zero_one, hz, hst]
end
end Go.Proofs.Ytpliidkfllacpaa.Shell
