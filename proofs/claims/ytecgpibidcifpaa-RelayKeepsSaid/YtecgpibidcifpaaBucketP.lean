/- Plain mathematics of a bucket: what passes, when the next one would, the budget. -/
import Derived.ProofKit
namespace Go.Proofs.Ytecgpibidcifpaa.BucketW
/-- Gap and jitter that may be. -/
def rgt (g j : Int) : Bool := decide (0 < g) && decide (g ≤ 1073741824) && decide (0 ≤ j) && decide (j ≤ 1073741824)
theorem rgt_iff {g j : Int} : rgt g j = true ↔ (0 < g ∧ g ≤ 1073741824) ∧ 0 ≤ j ∧ j ≤ 1073741824 := by unfold rgt; simp [and_assoc]
def far (t : Int) : Bool := decide (t < -1125899906842624) || decide (1125899906842624 < t)
theorem far_iff {t : Int} : far t = false ↔ -1125899906842624 ≤ t ∧ t ≤ 1125899906842624 := by unfold far; simp
/-- Does a frame at t pass? n frames did, the last of them at l; the mark is m. -/
def okB (j : Int) (n : Nat) (l m t : Int) : Bool := !far t && (decide (n = 0) || (decide (l ≤ t) && decide (m - j ≤ t)))
/-- The mark behind a frame at t that passes. -/
def mk (g : Int) (n : Nat) (m t : Int) : Int := (if n = 0 ∨ m < t then t else m) + g
/-- When the next one would pass. -/
def nx (j : Int) (n : Nat) (l m t : Int) : Int := if far t then 0 else if n = 0 then t else max (max t l) (m - j)
def bud (g j d : Int) : Int := if rgt g j = true ∧ 0 ≤ d ∧ d ≤ 2251799813685248 then 1 + (d + j) / g else 0
/-- What is known of a bucket at any time. -/
def Fit (g j : Int) (n : Nat) (l m : Int) : Prop := n = 0 ∨ ((-1125899906842624 ≤ l ∧ l ≤ 1125899906842624) ∧ l + g ≤ m ∧ m ≤ l + j + g)
theorem okB_iff {j : Int} {n : Nat} {l m t : Int} : okB j n l m t = true ↔ (-1125899906842624 ≤ t ∧ t ≤ 1125899906842624) ∧ (n = 0 ∨ (l ≤ t ∧ m - j ≤ t)) := by
  unfold okB
  rw [Bool.and_eq_true, Bool.or_eq_true, Bool.and_eq_true, decide_eq_true_eq, decide_eq_true_eq, decide_eq_true_eq, Bool.not_eq_true', far_iff]
theorem fit_take {g j : Int} {n : Nat} {l m t : Int} (hj : 0 ≤ j) (h : okB j n l m t = true) : Fit g j (n + 1) t (mk g n m t) := by
  obtain ⟨hf, ho⟩ := okB_iff.1 h
  right
  refine ⟨hf, ?_⟩
  unfold mk
  rcases Nat.eq_zero_or_pos n with h0 | h0
  · rw [if_pos (Or.inl h0)]; omega
  · by_cases hm : m < t
    · rw [if_pos (Or.inr hm)]; omega
    · rw [if_neg (by omega)]; omega
/-- The frames that passed, and the mark behind them. -/
def Lim (g j : Int) (ps : List Int) (m : Int) : Prop :=
  (∀ (i : Nat) (p : Int), ps[i]? = some p → p + ((ps.length : Int) - i) * g ≤ m) ∧
  (∀ (i k : Nat) (p q : Int), i ≤ k → ps[i]? = some p → ps[k]? = some q → p ≤ q ∧ ((k : Int) - i) * g ≤ q - p + j)
theorem lim_nil (g j m : Int) : Lim g j [] m := ⟨fun i p h => by simp at h, fun i k p q _ h => by simp at h⟩
theorem snoc_get {ps : List Int} {t p : Int} {i : Nat} (h : (ps ++ [t])[i]? = some p) : (i < ps.length ∧ ps[i]? = some p) ∨ (i = ps.length ∧ p = t) := by
  rcases Nat.lt_or_ge i ps.length with hi | hi
  · rw [List.getElem?_append_left hi] at h; exact Or.inl ⟨hi, h⟩
  · rw [List.getElem?_append_right hi] at h
    have : i - ps.length = 0 := by
      rcases Nat.eq_zero_or_pos (i - ps.length) with h0 | h0
      · exact h0
      · rw [List.getElem?_eq_none (by simp; omega)] at h; cases h
    rw [this] at h
    exact Or.inr ⟨by omega, by simpa using h.symm⟩
theorem lim_take {g j : Int} {ps : List Int} {l m t : Int} (hj : 0 ≤ j) (H : Lim g j ps m) (hl : ∀ p, ps.getLast? = some p → p = l) (h : okB j ps.length l m t = true) : Lim g j (ps ++ [t]) (mk g ps.length m t) := by
  obtain ⟨-, ho⟩ := okB_iff.1 h
  have old : ∀ (i : Nat) (p : Int), ps[i]? = some p → i < ps.length → p ≤ t ∧ m - j ≤ t ∧ mk g ps.length m t ≥ m + g := by
    intro i p hp hi
    obtain ⟨q, hq⟩ : ∃ q, ps[ps.length - 1]? = some q := ⟨_, List.getElem?_eq_getElem (by omega)⟩
    have hql : q = l := hl q (by rw [List.getLast?_eq_getElem?]; exact hq)
    have := (H.2 i (ps.length - 1) p q (by omega) hp hq).1
    refine ⟨by omega, by omega, ?_⟩
    unfold mk
    by_cases hm : m < t
    · rw [if_pos (Or.inr hm)]; omega
    · rw [if_neg (by omega)]; omega
  have e1 : ∀ i : Nat, (((ps ++ [t]).length : Int) - i) * g = ((ps.length : Int) - i) * g + g := by
    intro i
    rw [List.length_append, List.length_singleton, show (((ps.length + 1 : Nat) : Int) - i) = ((ps.length : Int) - i) + 1 by omega, Int.add_mul, Int.one_mul]
  refine ⟨fun i p hp => ?_, fun i k p q hik hp hq => ?_⟩
  · rw [e1]
    rcases snoc_get hp with ⟨hi, hp⟩ | ⟨rfl, rfl⟩
    · have h1 := H.1 i p hp
      have h2 := (old i p hp hi).2.2
      generalize ((ps.length : Int) - i) * g = z at *
      omega
    · rw [Int.sub_self, Int.zero_mul]
      unfold mk
      by_cases hm : ps.length = 0 ∨ m < p
      · rw [if_pos hm]; omega
      · rw [if_neg hm]; omega
  · rcases snoc_get hq with ⟨hk, hq⟩ | ⟨rfl, rfl⟩
    · rcases snoc_get hp with ⟨hi, hp⟩ | ⟨rfl, rfl⟩
      · exact H.2 i k p q hik hp hq
      · omega
    · rcases snoc_get hp with ⟨hi, hp⟩ | ⟨rfl, rfl⟩
      · have h1 := H.1 i p hp
        obtain ⟨h2, h3, -⟩ := old i p hp hi
        refine ⟨h2, ?_⟩
        generalize ((ps.length : Int) - i) * g = z at *
        omega
      · rw [Int.sub_self, Int.zero_mul]
        omega
/-- No more than the budget. -/
theorem lim_bud {g j : Int} {ps : List Int} {m : Int} (hr : rgt g j = true) (H : Lim g j ps m) (hf : ∀ p ∈ ps, far p = false) {i k : Nat} {p q : Int} (hik : i ≤ k) (hp : ps[i]? = some p) (hq : ps[k]? = some q) : (k : Int) - i + 1 ≤ bud g j (q - p) := by
  obtain ⟨h1, h2⟩ := H.2 i k p q hik hp hq
  have fp := far_iff.1 (hf p (List.mem_of_getElem? hp))
  have fq := far_iff.1 (hf q (List.mem_of_getElem? hq))
  have hg := (rgt_iff.1 hr).1.1
  unfold bud
  rw [if_pos ⟨hr, by omega, by omega⟩]
  have := Int.le_ediv_of_mul_le hg h2
  omega
end Go.Proofs.Ytecgpibidcifpaa.BucketW

