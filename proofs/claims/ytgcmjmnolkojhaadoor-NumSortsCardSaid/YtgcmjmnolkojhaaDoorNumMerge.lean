/- Plain mathematics: two sorted rows merged; a sort is one; the ends of a sorted row. -/
import Derived.Test.YtgcmjmnolkojhaaDoorNumSorted
namespace Go.Proofs.YtgcmjmnolkojhaaDoor.NumP
def le (a b : Nat) : Bool := decide (rank a ≤ rank b)
theorem rank_inj {a b : Nat} (ha : a < 18446744073709551616) (hb : b < 18446744073709551616) (h1 : oneN a = a) (h2 : oneN b = b) (h : rank a = rank b) : a = b := by
  unfold rank at h
  unfold oneN at h1 h2
  unfold mag at *
  split at h <;> split at h <;> simp_all <;> (try split at h) <;> (try split at h) <;> omega
theorem isSort_unique {xs ys zs : List Nat} (hx : ∀ x ∈ xs, x < 18446744073709551616) (h1 : IsSort xs ys) (h2 : IsSort xs zs) : ys = zs := by
  refine List.Perm.eq_of_pairwise ?_ h1.2 h2.2 (h1.1.trans h2.1.symm)
  intro a b ha hb hab hba
  have ga := h1.1.mem_iff.1 ha
  have gb := h2.1.mem_iff.1 hb
  obtain ⟨x, hx1, rfl⟩ := List.mem_map.1 ga
  obtain ⟨y, hy1, rfl⟩ := List.mem_map.1 gb
  exact rank_inj (one_lt _ (hx x hx1)) (one_lt _ (hx y hy1)) (one_one _) (one_one _) (Nat.le_antisymm hab hba)
theorem isSort_perm {xs ms ys : List Nat} (hp : ms.Perm xs) (h : IsSort ms ys) : IsSort xs ys := ⟨h.1.trans (hp.map _), h.2⟩
theorem merge_isSort {xs ys us vs : List Nat} (h1 : IsSort xs us) (h2 : IsSort ys vs) : IsSort (xs ++ ys) (List.merge us vs le) := by
  refine ⟨(List.merge_perm_append (le := le)).trans ?_, ?_⟩
  · rw [List.map_append]; exact h1.1.append h2.1
  · have := List.pairwise_merge (le := le) (fun a b c h1 h2 => by unfold le at *; simp at *; omega) (fun a b => by unfold le; simp; omega) us vs (h1.2.imp (fun h => by unfold le; simpa using h)) (h2.2.imp (fun h => by unfold le; simpa using h))
    exact this.imp (fun h => by unfold le at h; simpa using h)
theorem isSort_nil : IsSort [] [] := ⟨List.Perm.refl _, List.Pairwise.nil⟩
theorem isSort_one (x : Nat) : IsSort [x] [oneN x] := ⟨List.Perm.refl _, List.pairwise_singleton _ _⟩
theorem merge_left {us vs rs : List Nat} {i j a b : Nat} (h : rs ++ List.merge (us.drop i) (vs.drop j) le = List.merge us vs le) (ha : us[i]? = some a) (hb : vs[j]? = some b) (hle : rank a ≤ rank b) : (rs ++ [a]) ++ List.merge (us.drop (i + 1)) (vs.drop j) le = List.merge us vs le := by
  obtain ⟨hi, rfl⟩ := List.getElem?_eq_some_iff.1 ha
  obtain ⟨hj, rfl⟩ := List.getElem?_eq_some_iff.1 hb
  rw [← h, List.drop_eq_getElem_cons hi, List.drop_eq_getElem_cons hj, List.cons_merge_cons, if_pos (by unfold le; simpa using hle)]
  simp
theorem merge_right {us vs rs : List Nat} {i j a b : Nat} (h : rs ++ List.merge (us.drop i) (vs.drop j) le = List.merge us vs le) (ha : us[i]? = some a) (hb : vs[j]? = some b) (hle : ¬ rank a ≤ rank b) : (rs ++ [b]) ++ List.merge (us.drop i) (vs.drop (j + 1)) le = List.merge us vs le := by
  obtain ⟨hi, rfl⟩ := List.getElem?_eq_some_iff.1 ha
  obtain ⟨hj, rfl⟩ := List.getElem?_eq_some_iff.1 hb
  rw [← h, List.drop_eq_getElem_cons hi, List.drop_eq_getElem_cons hj, List.cons_merge_cons, if_neg (by unfold le; simpa using hle)]
  simp
theorem merge_lone {us vs rs : List Nat} {i j a : Nat} (h : rs ++ List.merge (us.drop i) (vs.drop j) le = List.merge us vs le) (ha : us[i]? = some a) (hj : j = vs.length) : (rs ++ [a]) ++ List.merge (us.drop (i + 1)) (vs.drop j) le = List.merge us vs le := by
  obtain ⟨hi, rfl⟩ := List.getElem?_eq_some_iff.1 ha
  rw [← h, List.drop_eq_getElem_cons hi, List.drop_of_length_le (Nat.le_of_eq hj.symm), List.merge_right, List.merge_right]
  simp
theorem merge_rest {us vs rs : List Nat} {i j b : Nat} (h : rs ++ List.merge (us.drop i) (vs.drop j) le = List.merge us vs le) (hb : vs[j]? = some b) (hi : i = us.length) : (rs ++ [b]) ++ List.merge (us.drop i) (vs.drop (j + 1)) le = List.merge us vs le := by
  obtain ⟨hj, rfl⟩ := List.getElem?_eq_some_iff.1 hb
  rw [← h, List.drop_eq_getElem_cons hj, List.drop_of_length_le (Nat.le_of_eq hi.symm), List.nil_merge, List.nil_merge]
  simp
theorem merge_done {us vs rs : List Nat} (h : rs ++ List.merge (us.drop us.length) (vs.drop vs.length) le = List.merge us vs le) : rs = List.merge us vs le := by
  rw [← h]; simp
end Go.Proofs.YtgcmjmnolkojhaaDoor.NumP
