/- Rows of the call's own; Clone. -/
import Derived.Test.YtdaoemjkefpmcaaConfE
import Derived.Laws.AppendOwn
import Derived.Laws.AppendOwnNone
import Derived.Lib.SliceRun
namespace Go.Proofs.Ytdaoemjkefpmcaa.ConfW
open Go.RowKit Shell
/-- An entry's, or a link's, cell. -/
def fld (e : R4) : Nat → Value
  | 0 => .int .i64 e.a
  | 1 => .int .u32 (e.b : Int)
  | 2 => .int .i64 e.c
  | _ => .int .i64 e.d
def ents : List R4 → List Value
  | [] => []
  | e :: l => .int .i64 e.a :: .int .u32 (e.b : Int) :: .int .i64 e.c :: .int .i64 e.d :: ents l
theorem ents_at : ∀ (l : List R4) (k i : Nat), i < 4 → (ents l)[k * 4 + i]? = (l[k]?).map (fun e => fld e i)
  | [], k, i, _ => by simp [ents]
  | e :: l, 0, i, hi => by
    rcases (show i = 0 ∨ i = 1 ∨ i = 2 ∨ i = 3 by omega) with rfl | rfl | rfl | rfl <;> rfl
  | e :: l, k + 1, i, hi => by
    rw [List.getElem?_cons_succ, ← ents_at l k i hi, show (k + 1) * 4 + i = (k * 4 + i) + 1 + 1 + 1 + 1 by omega]
    rfl
theorem ents_get {l : List R4} {j : Nat} {u : Value} (h : (ents l)[j]? = some u) : ∃ k i e, i < 4 ∧ j = k * 4 + i ∧ l[k]? = some e ∧ u = fld e i := by
  have hj : j = j / 4 * 4 + j % 4 := by omega
  have hi : j % 4 < 4 := Nat.mod_lt _ (by decide)
  rw [hj, ents_at l _ _ hi] at h
  cases he : l[j / 4]? with
  | none => rw [he] at h; cases h
  | some e => rw [he] at h; cases h; exact ⟨j / 4, j % 4, e, hi, hj, he, rfl⟩
theorem ents_app : ∀ l m : List R4, ents (l ++ m) = ents l ++ ents m
  | [], m => rfl
  | e :: l, m => by simp only [List.cons_append, ents, ents_app l m]
theorem ents_one {l : List R4} : ∀ u ∈ ents l, u.oneCell' = true := by
  intro u hu
  obtain ⟨j, hj⟩ := List.getElem?_of_mem hu
  obtain ⟨k, i, e, hi, -, -, rfl⟩ := ents_get hj
  rcases (show i = 0 ∨ i = 1 ∨ i = 2 ∨ i = 3 by omega) with rfl | rfl | rfl | rfl <;> rfl
/-- From a block on all is as it was. -/
structure Up (lo : Nat) (w w' : World) : Prop where
  size : w.heap.size ≤ w'.heap.size
  block : ∀ j, lo ≤ j → j < w.heap.size → w'.heap[j]? = w.heap[j]?
theorem Up.refl (lo : Nat) (w : World) : Up lo w w := ⟨Nat.le_refl _, fun _ _ _ => rfl⟩
theorem Up.trans {lo : Nat} {a b c : World} (h : Up lo a b) (k : Up lo b c) : Up lo a c := ⟨Nat.le_trans h.size k.size, fun j hj hs => (k.block j hj (Nat.lt_of_lt_of_le hs h.size)).trans (h.block j hj hs)⟩
theorem Up.of {w w' : World} (lo : Nat) (b : Below w.heap.size w w') : Up lo w w' := ⟨b.size, fun j _ hs => b.block j hs⟩
theorem Up.set {lo : Nat} {w w' : World} (h : Up lo w w') (a : Addr) (v : Value) (ha : a.block < lo) : Up lo w (w'.setCell a v) := by
  refine ⟨Nat.le_trans h.size (by simp), fun j hj hs => ?_⟩
  rw [heap_setCell_other _ _ _ _ (by omega)]
  exact h.block j hj hs
theorem Up.mono {lo hi : Nat} {w w' : World} (h : Up lo w w') (hl : lo ≤ hi) : Up hi w w' := ⟨h.size, fun j hj hs => h.block j (Nat.le_trans hl hj) hs⟩
theorem own_up {lo base size n : Nat} {e : TypeId} {v : Value} {xs : List Value} {w w' : World} (h : w.ownsRow base e size v n xs) (hb : lo ≤ base) (u : Up lo w w') : w'.ownsRow base e size v n xs := by
  refine ⟨h.1, ?_⟩
  rcases h.2 with h1 | ⟨g, cap, cur, h1, h2, h3, h4⟩
  · exact Or.inl h1
  · exact Or.inr ⟨g, cap, cur, h1, h2, (u.block g (by omega) (row_lt h3)).trans h3, h4⟩
theorem own_cell {b size n : Nat} {e : TypeId} {v : Value} {xs : List Value} {w : World} (h : w.ownsRow b e size v n xs) {j : Nat} {u : Value} (hu : xs[j]? = some u) : ∃ g cap, v = .slice (some ⟨g, 0, none⟩) n cap ∧ b ≤ g ∧ w.cell? ⟨g, j, none⟩ = some u ∧ w.frozen? ⟨g, j, none⟩ = false := by
  have hj := lt_of_get hu
  rcases h.2 with ⟨h1, h2⟩ | ⟨g, cap, cur, h1, h2, h3, h4, h5, h6, h7⟩
  · have h3 := h.1
    rw [h2] at h3
    omega
  · refine ⟨g, cap, h1, h2, ?_, frozen_of_row w g j cur e h3⟩
    rw [cell_of_row w g j cur e _ h3]
    rw [← h7, List.getElem?_take_of_lt (by rw [← h.1]; exact hj), Array.getElem?_toList] at hu
    exact hu
/-- What such a row's value looks like. -/
theorem own_form {b size n : Nat} {e : TypeId} {v : Value} {xs : List Value} {w : World} (h : w.ownsRow b e size v n xs) : ∃ A c, v = .slice A n c ∧ n ≤ c ∧ n ≤ maxLen ∧ (A = none → c = 0) ∧ (∀ a, A = some a → a.off = 0 ∧ a.spot = none ∧ b ≤ a.block) := by
  rcases h.2 with ⟨h1, h2⟩ | ⟨g, cap, cur, h1, h2, h3, h4, h5, h6, h7⟩
  · subst h2
    exact ⟨none, 0, h1, Nat.le_refl _, Nat.zero_le _, fun _ => rfl, fun a ha => by cases ha⟩
  · exact ⟨_, cap, h1, h4, Nat.le_trans h4 h5, (fun h => by cases h), fun a ha => by cases ha; exact ⟨rfl, rfl, h2⟩⟩
theorem own_cl {b n : Nat} {A : Option Addr} {c : Nat} {xs : List Int} {w : World} (h : w.ownsRow b 2 1 (.slice A n c) n (nums .i64 xs)) (hw : Wf .i64 xs) : CL w .i64 A xs := by
  intro k x hx
  obtain ⟨g, cap, hv, hb, hc, -⟩ := own_cell h (j := k) (u := .int .i64 x) (by unfold nums; rw [List.getElem?_map, hx]; rfl)
  cases hv
  refine ⟨_, rfl, ?_, hw x (List.mem_of_getElem? hx)⟩
  have ha : (⟨g, 0, none⟩ : Addr).add k = ⟨g, k, none⟩ := by unfold Addr.add; split <;> simp_all
  rw [ha]
  exact hc
theorem own_ml {b n : Nat} {e : TypeId} {A : Option Addr} {c : Nat} {l : List R4} {w : World} (h : w.ownsRow b e 4 (.slice A n c) n (ents l)) (hw : ∀ x ∈ l, x.b < 4294967296) : ML w A l := by
  intro k x hx
  have at_ : ∀ i, i < 4 → (ents l)[k * 4 + i]? = some (fld x i) := fun i hi => by rw [ents_at l k i hi, hx]; rfl
  obtain ⟨g, cap, hv, hb, h0, -⟩ := own_cell h (at_ 0 (by decide))
  obtain ⟨g1, c1, hv1, -, h1, -⟩ := own_cell h (at_ 1 (by decide))
  obtain ⟨g2, c2, hv2, -, h2, -⟩ := own_cell h (at_ 2 (by decide))
  obtain ⟨g3, c3, hv3, -, h3, -⟩ := own_cell h (at_ 3 (by decide))
  cases hv
  cases hv1
  cases hv2
  cases hv3
  have q : ∀ i, (0 : Nat) + k * 4 + i = k * 4 + i := by intro i; omega
  refine ⟨g, 0, rfl, ⟨?_, ?_, ?_, ?_⟩, hw x (List.mem_of_getElem? hx)⟩
  · rw [show (0 : Nat) + k * 4 = k * 4 + 0 by omega]; exact h0
  · rw [q]; exact h1
  · rw [q]; exact h2
  · rw [q]; exact h3
end Go.Proofs.Ytdaoemjkefpmcaa.ConfW

