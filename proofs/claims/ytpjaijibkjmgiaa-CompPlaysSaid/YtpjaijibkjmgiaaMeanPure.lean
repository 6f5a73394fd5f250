/- Plain mathematics of the laws: between the ends; one bad reading; shifts; twins; three readings. -/
import Derived.Test.YtpjaijibkjmgiaaMeanProg
namespace Go.Proofs.Ytpjaijibkjmgiaa.MeanW
open Go.RowKit TickW
theorem half_between {a b lo hi : Int} (h1 : lo ≤ a) (h2 : a ≤ hi) (h3 : lo ≤ b) (h4 : b ≤ hi) : lo ≤ (a + b) / 2 ∧ (a + b) / 2 ≤ hi := by omega
/-- A mean lies between the least and the greatest. -/
theorem half_ends {xs : List Int} (hn : 0 < xs.length) {k : Nat} (hk : k < xs.length) : (srt xs).getD 0 0 ≤ halfAt xs k ∧ halfAt xs k ≤ (srt xs).getD (xs.length - 1) 0 := by
  have hl := srt_len xs
  unfold halfAt
  exact half_between (up_at (srt_up xs) (Nat.zero_le _) (by omega)) (up_at (srt_up xs) (by omega) (by omega)) (up_at (srt_up xs) (Nat.zero_le _) (by omega)) (up_at (srt_up xs) (by omega) (by omega))
theorem tolK_lt {xs : List Int} (hn : 0 < xs.length) : tolK xs < xs.length := by unfold tolK; omega
theorem midK_lt {xs : List Int} (hn : 0 < xs.length) : midK xs < xs.length := by unfold midK; omega
theorem halfAt_perm {xs ys : List Int} (h : xs.Perm ys) (k : Nat) : halfAt xs k = halfAt ys k := by unfold halfAt; rw [srt_same h, h.length_eq]
theorem tolK_perm {xs ys : List Int} (h : xs.Perm ys) : tolK xs = tolK ys := by unfold tolK; rw [h.length_eq]
theorem midK_perm {xs ys : List Int} (h : xs.Perm ys) : midK xs = midK ys := by unfold midK; rw [h.length_eq]
theorem spread_perm {xs ys : List Int} (h : xs.Perm ys) : spreadN xs = spreadN ys := by
  unfold spreadN
  rw [srt_same h, h.length_eq]
  by_cases he : ys = []
  · subst he; rw [List.perm_nil.1 h]
  · rw [if_neg he, if_neg (fun e => he (by subst e; exact List.nil_perm.1 h))]
theorem rot_perm (xs : List Int) (p : Nat) : (xs.drop p ++ xs.take p).Perm xs := (List.perm_append_comm).trans (List.Perm.of_eq (List.take_append_drop p xs))
/-- One among a sorted row's readings, wherever it stands: its neighbours. -/
theorem ins_perm (xs : List Int) (p : Nat) (b : Int) : (xs.take p ++ [b] ++ xs.drop p).Perm (b :: xs) := by
  rw [List.append_assoc]
  refine (List.perm_append_comm).trans ?_
  simp only [List.cons_append, List.nil_append]
  refine List.Perm.cons b ?_
  refine (List.perm_append_comm).trans ?_
  rw [List.take_append_drop]
theorem count_le {l : List Int} (hs : l.Pairwise (fun a b => a ≤ b)) {lo : Int} {x : Int} {ys : List Int} (hp : l.Perm (x :: ys)) (hy : ∀ y ∈ ys, lo ≤ y) (h2 : 2 ≤ l.length) : lo ≤ l.getD 1 0 := by
  match l, hs, hp, h2 with
  | a :: b :: t, hs, hp, _ =>
    show lo ≤ b
    have hab : a ≤ b := (List.pairwise_cons.1 hs).1 b (List.mem_cons_self ..)
    by_cases hb : b ∈ ys
    · exact hy b hb
    · have hbx : b = x := by
        rcases List.mem_cons.1 (hp.mem_iff.1 (List.mem_cons_of_mem _ (List.mem_cons_self ..))) with h | h
        · exact h
        · exact absurd h hb
      have ha : a ∈ ys := by
        rcases List.mem_cons.1 (hp.mem_iff.1 (List.mem_cons_self ..)) with h | h
        · rw [h, hbx] at hp
          rw [h]
          exact ((List.perm_cons x).1 hp).mem_iff.1 (List.mem_cons_self ..)
        · exact h
      exact Int.le_trans (hy a ha) hab
theorem neg_up {l : List Int} (hs : l.Pairwise (fun a b => a ≤ b)) : ((l.map fun x => -x).reverse).Pairwise (fun a b => a ≤ b) := by
  rw [List.pairwise_reverse, List.pairwise_map]
  exact hs.imp (fun h => by omega)
theorem neg_at (l : List Int) (i : Nat) (h : i < l.length) : ((l.map fun x => -x).reverse).getD i 0 = -(l.getD (l.length - 1 - i) 0) := by
  rw [List.getD_eq_getElem?_getD, List.getElem?_reverse (by simpa using h), List.getElem?_map, List.length_map, List.getD_eq_getElem?_getD, List.getElem?_eq_getElem (show l.length - 1 - i < l.length by omega)]
  rfl
theorem count_ge {l : List Int} (hs : l.Pairwise (fun a b => a ≤ b)) {hi : Int} {x : Int} {ys : List Int} (hp : l.Perm (x :: ys)) (hy : ∀ y ∈ ys, y ≤ hi) (h2 : 2 ≤ l.length) : l.getD (l.length - 1 - 1) 0 ≤ hi := by
  have hp2 : ((l.map fun x => -x).reverse).Perm (-x :: ys.map fun x => -x) := (List.reverse_perm _).trans (by simpa using hp.map (fun x => -x))
  have := count_le (neg_up hs) (lo := -hi) hp2 (fun y hy2 => by
    obtain ⟨z, hz, rfl⟩ := List.mem_map.1 hy2
    have := hy z hz
    omega) (by simpa using h2)
  rw [neg_at l 1 (by omega)] at this
  omega
/-- One bad reading among others doesn't bring the tolerant mean out of the others' range. -/
theorem bad_between {xs m : List Int} {b : Int} (hp : m.Perm (b :: xs)) (h2 : 2 ≤ xs.length) : (srt xs).getD 0 0 ≤ halfAt m (tolK m) ∧ halfAt m (tolK m) ≤ (srt xs).getD (xs.length - 1) 0 := by
  have hl : m.length = xs.length + 1 := by rw [hp.length_eq]; rfl
  have hk : tolK m = 1 := by unfold tolK; omega
  have hxl := srt_len xs
  have hml := srt_len m
  have hpm : (srt m).Perm (b :: srt xs) := (srt_perm m).trans (hp.trans (List.Perm.cons b (srt_perm xs).symm))
  have lo : ∀ y ∈ srt xs, (srt xs).getD 0 0 ≤ y := fun y hy => by
    obtain ⟨j, hj⟩ := List.getElem?_of_mem hy
    have hjl : j < (srt xs).length := by
      rcases Nat.lt_or_ge j (srt xs).length with h4 | h4
      · exact h4
      · rw [List.getElem?_eq_none h4] at hj; cases hj
    have := up_at (srt_up xs) (Nat.zero_le j) hjl
    rwa [List.getD_eq_getElem?_getD (l := srt xs) (i := j), hj] at this
  have hi : ∀ y ∈ srt xs, y ≤ (srt xs).getD (xs.length - 1) 0 := fun y hy => by
    obtain ⟨j, hj⟩ := List.getElem?_of_mem hy
    have hjl : j < (srt xs).length := by
      rcases Nat.lt_or_ge j (srt xs).length with h4 | h4
      · exact h4
      · rw [List.getElem?_eq_none h4] at hj; cases hj
    have := up_at (srt_up xs) (show j ≤ xs.length - 1 by omega) (by omega)
    rwa [List.getD_eq_getElem?_getD (l := srt xs) (i := j), hj] at this
  have c1 := count_le (srt_up m) hpm lo (by omega)
  have c2 := count_ge (srt_up m) hpm hi (by omega)
  have c3 := up_at (srt_up m) (show 1 ≤ m.length - 1 - 1 by omega) (by omega)
  rw [hml] at c2
  unfold halfAt
  rw [hk]
  exact half_between c1 (Int.le_trans c3 c2) (Int.le_trans c1 c3) c2
/-- All alike. -/
theorem twins_srt (n : Int) (k : Nat) : srt (List.replicate k n) = List.replicate k n := (srt_of (List.Perm.refl _) (by rw [List.pairwise_replicate]; exact Or.inr (Int.le_refl _))).symm
theorem twins_at (n : Int) (k i : Nat) (h : i < k) : (List.replicate k n).getD i 0 = n := by
  rw [List.getD_eq_getElem?_getD, List.getElem?_replicate, if_pos h]; rfl
theorem twins_half (n : Int) (k i : Nat) (h : i < k) : halfAt (List.replicate k n) i = n := by
  unfold halfAt
  rw [twins_srt, List.length_replicate, twins_at n k i h, twins_at n k (k - 1 - i) (by omega)]
  omega
theorem twins_spread (n : Int) (k : Nat) : spreadN (List.replicate k n) = 0 := by
  unfold spreadN
  split
  · rfl
  · rename_i h
    have hk : 0 < k := by
      rcases Nat.eq_zero_or_pos k with h1 | h1
      · subst h1; exact absurd rfl h
      · exact h1
    rw [twins_srt, List.length_replicate, twins_at n k 0 hk, twins_at n k (k - 1) (by omega)]
    omega
/-- Of three readings both means are the middle one. -/
theorem three {a b c : Int} : tolK [a, b, c] = 1 ∧ midK [a, b, c] = 1 ∧ halfAt [a, b, c] 1 = (srt [a, b, c]).getD 1 0 := by
  refine ⟨by unfold tolK; simp only [List.length_cons, List.length_nil]; decide, by unfold midK; simp only [List.length_cons, List.length_nil], ?_⟩
  show ((srt [a, b, c]).getD 1 0 + (srt [a, b, c]).getD 1 0) / 2 = _
  omega
/-- All later by the same. -/
theorem shift_srt (xs : List Int) (d : Int) : srt (xs.map fun x => x + d) = (srt xs).map fun x => x + d :=
  (srt_of ((srt_perm xs).map _) (by rw [List.pairwise_map]; exact (srt_up xs).imp (fun h => by omega))).symm
theorem map_getD (xs : List Int) (d : Int) (i : Nat) (h : i < xs.length) : (xs.map fun x => x + d).getD i 0 = xs.getD i 0 + d := by
  rw [List.getD_eq_getElem?_getD, List.getElem?_map, List.getElem?_eq_getElem h, List.getD_eq_getElem?_getD, List.getElem?_eq_getElem h]; rfl
theorem shift_half (xs : List Int) (d : Int) (k : Nat) (h : k < xs.length) : halfAt (xs.map fun x => x + d) k = halfAt xs k + d := by
  have hl := srt_len xs
  unfold halfAt
  rw [shift_srt, List.length_map, map_getD _ _ _ (by omega), map_getD _ _ _ (by omega)]
  omega
theorem shift_tolK (xs : List Int) (d : Int) : tolK (xs.map fun x => x + d) = tolK xs := by unfold tolK; rw [List.length_map]
theorem shift_midK (xs : List Int) (d : Int) : midK (xs.map fun x => x + d) = midK xs := by unfold midK; rw [List.length_map]
theorem shift_spread (xs : List Int) (d : Int) : spreadN (xs.map fun x => x + d) = spreadN xs := by
  have hl := srt_len xs
  unfold spreadN
  by_cases h : xs = []
  · subst h; rfl
  · rw [if_neg h, if_neg (fun e => h (List.map_eq_nil_iff.1 e)), shift_srt, List.length_map]
    have hp : 0 < xs.length := List.length_pos_iff.2 h
    rw [map_getD _ _ _ (by omega), map_getD _ _ _ (by omega)]
    omega
end Go.Proofs.Ytpjaijibkjmgiaa.MeanW

