/- Plain mathematics of a fuse: how much it bears, and what a script tells. -/
import Derived.ProofKit
namespace Go.Proofs.Ytjglgglolbkjlaa.FuseW
/-- How many panics a fuse bears. -/
def bear (n : Int) : Int := if n < 0 then 0 else if 4096 < n then 4096 else n
theorem bear_in (n : Int) : 0 ≤ bear n ∧ bear n ≤ 4096 := by unfold bear; split <;> (try split) <;> omega
/-- The letter of a number. -/
def lett (m c n : Int) : Int := if n = 6 then 45 else if n < 0 ∨ 7 < n then 45 else if m < c ∨ n = 5 then 110 else if n = 0 ∨ n = 7 then 121 else 110
/-- How many panics were caught behind it. -/
def cau (m c n : Int) : Int := if n = 6 then 0 else if n < 0 ∨ 7 < n then c else if m < c ∨ n = 5 then c else if n = 0 then c else c + 1
theorem cau_in {m c n : Int} (hm : 0 ≤ m) (hc : 0 ≤ c ∧ c ≤ m + 1) : 0 ≤ cau m c n ∧ cau m c n ≤ m + 1 := by
  unfold cau
  split
  · omega
  · split
    · omega
    · split
      · omega
      · split <;> omega
/-- The letters of a script. -/
def letts (m : Int) : Int → List Int → List Int
  | _, [] => []
  | c, n :: l => lett m c n :: letts m (cau m c n) l
/-- What was caught behind each of its numbers. -/
def caus (m : Int) : Int → List Int → List Int
  | _, [] => []
  | c, n :: l => cau m c n :: caus m (cau m c n) l
theorem letts_len (m : Int) : ∀ (c : Int) (l : List Int), (letts m c l).length = l.length
  | _, [] => rfl
  | c, n :: l => by rw [letts, List.length_cons, letts_len m _ l]; rfl
theorem caus_len (m : Int) : ∀ (c : Int) (l : List Int), (caus m c l).length = l.length
  | _, [] => rfl
  | c, n :: l => by rw [caus, List.length_cons, caus_len m _ l]; rfl
/-- What is caught ahead of the i-th number. -/
def ahead (m : Int) : Int → List Int → Nat → Int
  | c, _, 0 => c
  | c, [], _ + 1 => c
  | c, n :: l, i + 1 => ahead m (cau m c n) l i
theorem ahead_in {m : Int} (hm : 0 ≤ m) : ∀ (c : Int) (l : List Int) (i : Nat), 0 ≤ c ∧ c ≤ m + 1 → 0 ≤ ahead m c l i ∧ ahead m c l i ≤ m + 1
  | c, l, 0, h => by cases l <;> exact h
  | c, [], i + 1, h => h
  | c, n :: l, i + 1, h => ahead_in hm _ l i (cau_in hm h)
theorem script_at (m : Int) : ∀ (c : Int) (l : List Int) (i : Nat) (n : Int), l[i]? = some n → (letts m c l)[i]? = some (lett m (ahead m c l i) n) ∧ (caus m c l)[i]? = some (ahead m c l (i + 1)) ∧ ahead m c l (i + 1) = cau m (ahead m c l i) n
  | c, x :: l, 0, n, h => by
    simp only [List.getElem?_cons_zero, Option.some.injEq] at h
    subst h
    refine ⟨rfl, ?_, ?_⟩
    · show some (cau m c x) = some (ahead m (cau m c x) l 0)
      cases l <;> rfl
    · show ahead m (cau m c x) l 0 = cau m c x
      cases l <;> rfl
  | c, x :: l, i + 1, n, h => by
    simp only [List.getElem?_cons_succ] at h
    exact script_at m (cau m c x) l i n h
  | c, [], i, n, h => by simp at h
end Go.Proofs.Ytjglgglolbkjlaa.FuseW
