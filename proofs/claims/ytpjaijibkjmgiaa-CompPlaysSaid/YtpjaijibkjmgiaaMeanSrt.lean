/- Plain mathematics: a list of whole numbers in rising order; merging; what stands where; means of two. -/
import Derived.Test.YtpjaijibkjmgiaaTickAll
namespace Go.Proofs.Ytpjaijibkjmgiaa.MeanW
open Go.RowKit TickW
def leI (x y : Int) : Bool := decide (x ≤ y)
/-- In rising order. -/
def srt (l : List Int) : List Int := l.mergeSort leI
theorem leI_trans (a b c : Int) (h1 : leI a b = true) (h2 : leI b c = true) : leI a c = true := by unfold leI at *; simp at *; omega
theorem leI_total (a b : Int) : (leI a b || leI b a) = true := by unfold leI; simp; omega
theorem srt_perm (l : List Int) : (srt l).Perm l := List.mergeSort_perm l leI
theorem srt_len (l : List Int) : (srt l).length = l.length := (srt_perm l).length_eq
theorem srt_up (l : List Int) : (srt l).Pairwise (fun a b => a ≤ b) :=
  (List.pairwise_mergeSort leI_trans leI_total l).imp (fun h => by unfold leI at h; simpa using h)
theorem up_unique {xs ys : List Int} (hp : xs.Perm ys) (h1 : xs.Pairwise (fun a b => a ≤ b)) (h2 : ys.Pairwise (fun a b => a ≤ b)) : xs = ys :=
  List.Perm.eq_of_pairwise (fun _ _ _ _ hab hba => Int.le_antisymm hab hba) h1 h2 hp
theorem srt_of {xs l : List Int} (hp : xs.Perm l) (h : xs.Pairwise (fun a b => a ≤ b)) : xs = srt l := up_unique (hp.trans (srt_perm l).symm) h (srt_up l)
theorem srt_same {l m : List Int} (h : l.Perm m) : srt l = srt m := srt_of ((srt_perm l).trans h) (srt_up l)
theorem srt_mem {l : List Int} {x : Int} : x ∈ srt l ↔ x ∈ l := (srt_perm l).mem_iff
theorem srt_short {l : List Int} (h : l.length < 2) : srt l = l := (srt_of (List.Perm.refl l) (by match l, h with | [], _ => exact List.Pairwise.nil | [x], _ => exact List.pairwise_singleton _ _)).symm
theorem merge_srt (l : List Int) (k : Nat) : List.merge (srt (l.take k)) (srt (l.drop k)) leI = srt l := by
  refine srt_of ?_ ?_
  · refine (List.merge_perm_append (le := leI)).trans ?_
    refine ((srt_perm _).append (srt_perm _)).trans ?_
    rw [List.take_append_drop]
  · have := List.pairwise_merge (le := leI) leI_trans leI_total (srt (l.take k)) (srt (l.drop k)) ((srt_up _).imp (fun h => by unfold leI; simpa using h)) ((srt_up _).imp (fun h => by unfold leI; simpa using h))
    exact this.imp (fun h => by unfold leI at h; simpa using h)
theorem merge_left {us vs rs : List Int} {i j : Nat} {a b : Int} (h : rs ++ List.merge (us.drop i) (vs.drop j) leI = List.merge us vs leI) (ha : us[i]? = some a) (hb : vs[j]? = some b) (hle : a ≤ b) : (rs ++ [a]) ++ List.merge (us.drop (i + 1)) (vs.drop j) leI = List.merge us vs leI := by
  obtain ⟨hi, rfl⟩ := List.getElem?_eq_some_iff.1 ha
  obtain ⟨hj, rfl⟩ := List.getElem?_eq_some_iff.1 hb
  rw [← h, List.drop_eq_getElem_cons hi, List.drop_eq_getElem_cons hj, List.cons_merge_cons, if_pos (by unfold leI; simpa using hle)]
  simp
theorem merge_right {us vs rs : List Int} {i j : Nat} {a b : Int} (h : rs ++ List.merge (us.drop i) (vs.drop j) leI = List.merge us vs leI) (ha : us[i]? = some a) (hb : vs[j]? = some b) (hle : ¬ a ≤ b) : (rs ++ [b]) ++ List.merge (us.drop i) (vs.drop (j + 1)) leI = List.merge us vs leI := by
  obtain ⟨hi, rfl⟩ := List.getElem?_eq_some_iff.1 ha
  obtain ⟨hj, rfl⟩ := List.getElem?_eq_some_iff.1 hb
  rw [← h, List.drop_eq_getElem_cons hi, List.drop_eq_getElem_cons hj, List.cons_merge_cons, if_neg (by unfold leI; simpa using hle)]
  simp
theorem merge_lone {us vs rs : List Int} {i j : Nat} {a : Int} (h : rs ++ List.merge (us.drop i) (vs.drop j) leI = List.merge us vs leI) (ha : us[i]? = some a) (hj : j = vs.length) : (rs ++ [a]) ++ List.merge (us.drop (i + 1)) (vs.drop j) leI = List.merge us vs leI := by
  obtain ⟨hi, rfl⟩ := List.getElem?_eq_some_iff.1 ha
  rw [← h, List.drop_eq_getElem_cons hi, List.drop_of_length_le (Nat.le_of_eq hj.symm), List.merge_right, List.merge_right]
  simp
theorem merge_rest {us vs rs : List Int} {i j : Nat} {b : Int} (h : rs ++ List.merge (us.drop i) (vs.drop j) leI = List.merge us vs leI) (hb : vs[j]? = some b) (hi : i = us.length) : (rs ++ [b]) ++ List.merge (us.drop i) (vs.drop (j + 1)) leI = List.merge us vs leI := by
  obtain ⟨hj, rfl⟩ := List.getElem?_eq_some_iff.1 hb
  rw [← h, List.drop_eq_getElem_cons hj, List.drop_of_length_le (Nat.le_of_eq hi.symm), List.nil_merge, List.nil_merge]
  simp
theorem merge_done {us vs rs : List Int} (h : rs ++ List.merge (us.drop us.length) (vs.drop vs.length) leI = List.merge us vs leI) : rs = List.merge us vs leI := by
  rw [← h]; simp
/-- Whole numbers of 64 bits. -/
def B64 (x : Int) : Prop := -9223372036854775808 ≤ x ∧ x ≤ 9223372036854775807
theorem IL.bounds {w : World} {A : Option Addr} {xs : List Int} (h : IL w A xs) : ∀ x ∈ xs, B64 x := fun x hx => by
  obtain ⟨j, hj⟩ := List.getElem?_of_mem hx
  obtain ⟨_, _, _, hb⟩ := h j x hj
  exact hb
theorem srt_bounds {xs : List Int} (h : ∀ x ∈ xs, B64 x) : ∀ x ∈ srt xs, B64 x := fun x hx => h x (srt_mem.1 hx)
theorem up_at {l : List Int} (h : l.Pairwise (fun a b => a ≤ b)) {i j : Nat} (hij : i ≤ j) (hj : j < l.length) : l.getD i 0 ≤ l.getD j 0 := by
  rw [List.getD_eq_getElem?_getD, List.getD_eq_getElem?_getD, List.getElem?_eq_getElem (by omega), List.getElem?_eq_getElem hj]
  simp only [Option.getD_some]
  rcases Nat.lt_or_ge i j with h1 | h1
  · exact List.pairwise_iff_getElem.1 h i j (by omega) hj h1
  · obtain rfl : i = j := by omega
    exact Int.le_refl _
theorem getD_mem {l : List Int} {i : Nat} (h : i < l.length) : l.getD i 0 ∈ l := by
  rw [List.getD_eq_getElem?_getD, List.getElem?_eq_getElem h]
  exact List.getElem_mem h
theorem getD_at {l : List Int} {i : Nat} (h : i < l.length) : l[i]? = some (l.getD i 0) := by
  rw [List.getD_eq_getElem?_getD, List.getElem?_eq_getElem h]; rfl
theorem half_b {a b : Int} (ha : B64 a) (hb : B64 b) : B64 ((a + b) / 2) := by unfold B64 at *; omega
end Go.Proofs.Ytpjaijibkjmgiaa.MeanW

