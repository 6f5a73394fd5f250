/- Rows of the call's own; Clone. -/
import Derived.Test.YtmagjekmlnpfpaaGreatCrewAJa
import Derived.Laws.AppendOwn
import Derived.Laws.AppendOwnNone
import Derived.Lib.SliceRun
namespace Go.Proofs.YtmagjekmlnpfpaaGreat.ConfW
open Go.RowKit Shell
/-- An entry's, or a link's, cell. -/
def fld (e : R4) : Nat → Value
  | 0 => .int .i64 e.a
  | 1 => .int .u32 (e.b : Int)
  | 2 => .int .i64 e.c
  | _ => .int .i64 e.d
def ents : List R4 → List Value
  | [] => []
  | e :: l => .int .i64 e.a :: .int .u32 (e.b : Int) :: .int .i64 e.c :: .int .i64 e.d :: ents l
theorem ents_len : ∀ l : List R4, (ents l).length = l.length * 4
  | [] => rfl
  | e :: l => by simp only [ents, List.length_cons, ents_len l]; omega
theorem ents_at : ∀ (l : List R4) (k i : Nat), i < 4 → (ents l)[k * 4 + i]? = (l[k]?).map (fun e => fld e i)
  | [], k, i, _ => by simp [ents]
  | e :: l, 0, i, hi => by
    rcases (show i = 0 ∨ i = 1 ∨ i = 2 ∨ i = 3 by omega) with rfl | rfl | rfl | rfl <;> rfl
  | e :: l, k + 1, i, hi => by
    rw [List.getElem?_cons_succ, ← ents_at l k i hi, show (k + 1) * 4 + i = (k * 4 + i) + 1 + 1 + 1 + 1 by omega]
    rfl
theorem ents_get {l : List R4} {j : Nat} {u : Value} (h : (ents l)[j]? = some u) : ∃ k i e, i < 4 ∧ j = k * 4 + i ∧ l[k]? = some e ∧ u = fld e i := by
  have hj : j = j / 4 * 4 + j % 4 := by omega
  have hi : j % 4 < 4 := Nat.mod_lt _ (by decide)
  rw [hj, ents_at l _ _ hi] at h
  cases he : l[j / 4]? with
  | none => rw [he] at h; cases h
  | some e => rw [he] at h; cases h; exact ⟨j / 4, j % 4, e, hi, hj, he, rfl⟩
theorem ML.cellAt {w : World} {b off : Nat} {l : List R4} (h : ML w (some ⟨b, off, none⟩) l) {j : Nat} {u : Value} (hu : (ents l)[j]? = some u) : w.cell? ((⟨b, off, none⟩ : Addr).add j) = some u := by
  obtain ⟨k, i, e, hi, rfl, he, rfl⟩ := ents_get hu
  obtain ⟨g, o, hA, ⟨h0, h1, h2, h3⟩, -⟩ := h k e he
  cases hA
  have ha : ∀ n, (⟨b, off, none⟩ : Addr).add n = ⟨b, off + n, none⟩ := fun n => by unfold Addr.add; split <;> simp_all
  rw [ha]
  rcases (show i = 0 ∨ i = 1 ∨ i = 2 ∨ i = 3 by omega) with rfl | rfl | rfl | rfl
  · exact h0
  · exact h1
  · exact h2
  · exact h3
/-- From a block on all is as it was. -/
structure Up (lo : Nat) (w w' : World) : Prop where
  size : w.heap.size ≤ w'.heap.size
  block : ∀ j, lo ≤ j → j < w.heap.size → w'.heap[j]? = w.heap[j]?
theorem Up.refl (lo : Nat) (w : World) : Up lo w w := ⟨Nat.le_refl _, fun _ _ _ => rfl⟩
theorem Up.trans {lo : Nat} {a b c : World} (h : Up lo a b) (k : Up lo b c) : Up lo a c := ⟨Nat.le_trans h.size k.size, fun j hj hs => (k.block j hj (Nat.lt_of_lt_of_le hs h.size)).trans (h.block j hj hs)⟩
theorem Up.of {w w' : World} (lo : Nat) (b : Below w.heap.size w w') : Up lo w w' := ⟨b.size, fun j _ hs => b.block j hs⟩
theorem Up.set {lo : Nat} {w w' : World} (h : Up lo w w') (a : Addr) (v : Value) (ha : a.block < lo) : Up lo w (w'.setCell a v) := by
  refine ⟨Nat.le_trans h.size (by simp), fun j hj hs => ?_⟩
  rw [heap_setCell_other _ _ _ _ (by omega)]
  exact h.block j hj hs
theorem Up.mono {lo hi : Nat} {w w' : World} (h : Up lo w w') (hl : lo ≤ hi) : Up hi w w' := ⟨h.size, fun j hj hs => h.block j (Nat.le_trans hl hj) hs⟩
theorem own_up {lo base size n : Nat} {e : TypeId} {v : Value} {xs : List Value} {w w' : World} (h : w.ownsRow base e size v n xs) (hb : lo ≤ base) (u : Up lo w w') : w'.ownsRow base e size v n xs := by
  refine ⟨h.1, ?_⟩
  rcases h.2 with h1 | ⟨g, cap, cur, h1, h2, h3, h4⟩
  · exact Or.inl h1
  · exact Or.inr ⟨g, cap, cur, h1, h2, (u.block g (by omega) (row_lt h3)).trans h3, h4⟩
theorem own_cell {b size n : Nat} {e : TypeId} {v : Value} {xs : List Value} {w : World} (h : w.ownsRow b e size v n xs) {j : Nat} {u : Value} (hu : xs[j]? = some u) : ∃ g cap, v = .slice (some ⟨g, 0, none⟩) n cap ∧ b ≤ g ∧ w.cell? ⟨g, j, none⟩ = some u ∧ w.frozen? ⟨g, j, none⟩ = false := by
  have hj := lt_of_get hu
  rcases h.2 with ⟨h1, h2⟩ | ⟨g, cap, cur, h1, h2, h3, h4, h5, h6, h7⟩
  · have h3 := h.1
    rw [h2] at h3
    omega
  · refine ⟨g, cap, h1, h2, ?_, frozen_of_row w g j cur e h3⟩
    rw [cell_of_row w g j cur e _ h3]
    rw [← h7, List.getElem?_take_of_lt (by rw [← h.1]; exact hj), Array.getElem?_toList] at hu
    exact hu
theorem own_ml {b n : Nat} {e : TypeId} {A : Option Addr} {c : Nat} {l : List R4} {w : World} (h : w.ownsRow b e 4 (.slice A n c) n (ents l)) (hw : ∀ x ∈ l, x.b < 4294967296) : ML w A l := by
  intro k x hx
  have at_ : ∀ i, i < 4 → (ents l)[k * 4 + i]? = some (fld x i) := fun i hi => by rw [ents_at l k i hi, hx]; rfl
  obtain ⟨g, cap, hv, hb, h0, -⟩ := own_cell h (at_ 0 (by decide))
  obtain ⟨g1, c1, hv1, -, h1, -⟩ := own_cell h (at_ 1 (by decide))
  obtain ⟨g2, c2, hv2, -, h2, -⟩ := own_cell h (at_ 2 (by decide))
  obtain ⟨g3, c3, hv3, -, h3, -⟩ := own_cell h (at_ 3 (by decide))
  cases hv
  cases hv1
  cases hv2
  cases hv3
  have q : ∀ i, (0 : Nat) + k * 4 + i = k * 4 + i := by intro i; omega
  refine ⟨g, 0, rfl, ⟨?_, ?_, ?_, ?_⟩, hw x (List.mem_of_getElem? hx)⟩
  · rw [show (0 : Nat) + k * 4 = k * 4 + 0 by omega]; exact h0
  · rw [q]; exact h1
  · rw [q]; exact h2
  · rw [q]; exact h3
end Go.Proofs.YtmagjekmlnpfpaaGreat.ConfW


