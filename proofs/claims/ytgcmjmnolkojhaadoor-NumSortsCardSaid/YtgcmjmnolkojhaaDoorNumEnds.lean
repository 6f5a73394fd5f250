/- Plain mathematics: the least and the greatest number, and the ends of the sorted row. -/
import Derived.Test.YtgcmjmnolkojhaaDoorNumMerge
namespace Go.Proofs.YtgcmjmnolkojhaaDoor.NumP
theorem kind9 (x : Nat) : kind x = 9 ↔ 9218868437227405312 < mag x := by
  constructor
  · intro h
    by_cases h1 : 9218868437227405312 < mag x
    · exact h1
    · have := kind_num x h1; omega
  · exact kind_nan x
/-- What outN answers: the NaN word, where all are NaN; else one that none beats. -/
def Out (side : Int) (xs : List Nat) (r : Nat) : Prop := (r = 9221120237041090561 ∧ ∀ x ∈ xs, kind x = 9) ∨ (r ∈ xs ∧ kind r ≠ 9 ∧ ∀ x ∈ xs, kind x ≠ 9 → cmpN x r ≠ side)
theorem out_snoc {side : Int} (hs : side = 1 ∨ side = -1) {xs : List Nat} {f x : Nat} (h : Out side xs f) : Out side (xs ++ [x]) (outF side f x) := by
  unfold outF
  by_cases hx : kind x = 9
  · rw [if_pos hx]
    rcases h with ⟨h1, h2⟩ | ⟨h1, h2, h3⟩
    · exact Or.inl ⟨h1, fun y hy => by rcases List.mem_append.1 hy with h | h; exact h2 y h; rw [List.mem_singleton.1 h]; exact hx⟩
    · exact Or.inr ⟨List.mem_append_left _ h1, h2, fun y hy hk => by rcases List.mem_append.1 hy with h | h; exact h3 y h hk; rw [List.mem_singleton.1 h] at hk; exact absurd hx hk⟩
  · rw [if_neg hx]
    rcases h with ⟨h1, h2⟩ | ⟨h1, h2, h3⟩
    · rw [if_pos (Or.inl (by rw [h1]; decide +kernel))]
      refine Or.inr ⟨List.mem_append_right _ (List.mem_singleton.2 rfl), hx, fun y hy hk => ?_⟩
      rcases List.mem_append.1 hy with h | h
      · exact absurd (h2 y h) hk
      · rw [List.mem_singleton.1 h]; unfold cmpN; rw [if_neg (Nat.lt_irrefl _), if_neg (Nat.lt_irrefl _)]; omega
    · by_cases hc : cmpN x f = side
      · rw [if_pos (Or.inr hc)]
        refine Or.inr ⟨List.mem_append_right _ (List.mem_singleton.2 rfl), hx, fun y hy hk => ?_⟩
        rcases List.mem_append.1 hy with h | h
        · have := h3 y h hk
          unfold cmpN at *
          (repeat' split at hc) <;> (repeat' split at this) <;> (repeat' split) <;> omega
        · rw [List.mem_singleton.1 h]; unfold cmpN; rw [if_neg (Nat.lt_irrefl _), if_neg (Nat.lt_irrefl _)]; omega
      · rw [if_neg (fun z => z.elim h2 hc)]
        refine Or.inr ⟨List.mem_append_left _ h1, h2, fun y hy hk => ?_⟩
        rcases List.mem_append.1 hy with h | h
        · exact h3 y h hk
        · rw [List.mem_singleton.1 h]; exact hc
theorem out_any {side : Int} (hs : side = 1 ∨ side = -1) (xs : List Nat) : Out side xs (outN side xs) := by
  have : ∀ k, k ≤ xs.length → Out side (xs.take k) (outN side (xs.take k)) := by
    intro k
    induction k with
    | zero => intro _; exact Or.inl ⟨rfl, fun x hx => by simp at hx⟩
    | succ k ih =>
      intro hk
      obtain ⟨x, hx⟩ := at_ (show k < xs.length by omega)
      rw [outN_snoc side hx, take_snoc hx]
      exact out_snoc hs (ih (by omega))
  have h := this xs.length (Nat.le_refl _)
  rwa [List.take_length] at h
/-- Of a sorted row: the last word that is not the NaN. -/
def LastN (ys : List Nat) (r : Nat) : Prop := (r = 9221120237041090561 ∧ ∀ y ∈ ys, y = 9221120237041090561) ∨ (r ∈ ys ∧ r ≠ 9221120237041090561 ∧ ∀ y ∈ ys, y ≠ 9221120237041090561 → rank y ≤ rank r)
theorem mem_sort {xs ys : List Nat} (h : IsSort xs ys) (y : Nat) : y ∈ ys ↔ ∃ x ∈ xs, oneN x = y := by
  rw [h.1.mem_iff, List.mem_map]
theorem one_word (x : Nat) (h : kind x ≠ 9) : oneN x = x := one_num x (fun z => h ((kind9 x).2 z))
theorem one_not (x : Nat) (h : kind x ≠ 9) : x ≠ 9221120237041090561 := fun e => h (by rw [e]; decide +kernel)
theorem greatest_eq {xs ys : List Nat} (hx : ∀ x ∈ xs, x < 18446744073709551616) (h : IsSort xs ys) {r : Nat} (hr : LastN ys r) : outN 1 xs = r := by
  have ho := out_any (Or.inl rfl : (1 : Int) = 1 ∨ (1 : Int) = -1) xs
  generalize outN 1 xs = o at *
  rcases ho with ⟨h1, h2⟩ | ⟨h1, h2, h3⟩ <;> rcases hr with ⟨g1, g2⟩ | ⟨g1, g2, g3⟩
  · rw [h1, g1]
  · obtain ⟨x, hm, rfl⟩ := (mem_sort h r).1 g1
    exact absurd (one_nan x ((kind9 x).1 (h2 x hm))) g2
  · have := g2 _ ((mem_sort h _).2 ⟨o, h1, rfl⟩)
    rw [one_word o h2] at this
    exact absurd this (one_not o h2)
  · obtain ⟨x, hm, e⟩ := (mem_sort h r).1 g1
    have hk : kind x ≠ 9 := fun z => g2 (by rw [← e]; exact one_nan x ((kind9 x).1 z))
    rw [one_word x hk] at e
    subst e
    have a1 := h3 x hm hk
    have a2 := g3 o ((mem_sort h o).2 ⟨o, h1, one_word o h2⟩) (one_not o h2)
    refine rank_inj (hx o h1) (hx x hm) (one_word o h2) (one_word x hk) ?_
    unfold cmpN at a1
    (repeat' split at a1) <;> omega
theorem least_eq {xs ys : List Nat} (hx : ∀ x ∈ xs, x < 18446744073709551616) (h : IsSort xs ys) : outN (-1) xs = ys[0]?.getD 9221120237041090561 := by
  have ho := out_any (Or.inr rfl : (-1 : Int) = 1 ∨ (-1 : Int) = -1) xs
  generalize outN (-1) xs = o at *
  cases ys with
  | nil =>
    rcases ho with ⟨h1, h2⟩ | ⟨h1, h2, h3⟩
    · exact h1
    · have := (mem_sort h _).2 ⟨o, h1, rfl⟩; cases this
  | cons y ys =>
    show o = y
    obtain ⟨x, hm, e⟩ := (mem_sort h y).1 (List.mem_cons_self ..)
    rcases ho with ⟨h1, h2⟩ | ⟨h1, h2, h3⟩
    · rw [h1, ← e, one_nan x ((kind9 x).1 (h2 x hm))]
    · have hmin : rank y ≤ rank o := by
        have hmo := (mem_sort h o).2 ⟨o, h1, one_word o h2⟩
        rcases List.mem_cons.1 hmo with e2 | e2
        · rw [e2]; exact Nat.le_refl _
        · exact (List.pairwise_cons.1 h.2).1 o e2
      by_cases hk : kind x = 9
      · exfalso
        have hy : y = 9221120237041090561 := by rw [← e]; exact one_nan x ((kind9 x).1 hk)
        have ro : rank o < 18446744073709551615 := by
          have n9 : ¬ 9218868437227405312 < mag o := fun z => h2 ((kind9 o).2 z)
          have lo := hx o h1
          unfold rank
          rw [if_neg n9]
          by_cases hb : 9223372036854775808 ≤ o
          · rw [if_pos hb]; omega
          · rw [if_neg hb]
            unfold mag at n9
            omega
        rw [hy, show rank 9221120237041090561 = 18446744073709551615 by decide +kernel] at hmin
        omega
      · rw [one_word x hk] at e
        subst e
        have a1 := h3 x hm hk
        refine rank_inj (hx o h1) (hx x hm) (one_word o h2) (one_word x hk) ?_
        unfold cmpN at a1
        (repeat' split at a1) <;> omega
end Go.Proofs.YtgcmjmnolkojhaaDoor.NumP
