/- Plain: what PortRated lays in, and in which order it comes out. -/
import Derived.Test.YtpliidkfllacpaaPortK
namespace Go.Proofs.Ytpliidkfllacpaa.PortW
/-- The first k frames, by class: those whose truth is b. -/
def cl2 (cls : Int) (want : Bool) (bs : List Bool) : Nat → List Da
  | 0 => []
  | k + 1 => if bs[k]? = some want then cl2 cls want bs k ++ [od cls (k : Int)] else cl2 cls want bs k
theorem cl2_len (bs : List Bool) : ∀ k, k ≤ bs.length → (cl2 2 true bs k).length + (cl2 3 false bs k).length = k
  | 0, _ => rfl
  | k + 1, h => by
    have ih := cl2_len bs k (by omega)
    obtain ⟨b, hb⟩ : ∃ b, bs[k]? = some b := ⟨_, List.getElem?_eq_getElem (by omega)⟩
    unfold cl2
    rw [hb]
    cases b <;> simp <;> omega
/-- Each has its class, and a number below k. -/
theorem cl2_mem {cls : Int} {want : Bool} {bs : List Bool} : ∀ {k : Nat} {x : Da}, x ∈ cl2 cls want bs k → x.c = cls ∧ 0 ≤ x.n ∧ x.n < (k : Int)
  | 0, x, h => by cases h
  | k + 1, x, h => by
    unfold cl2 at h
    split at h
    · rcases List.mem_append.1 h with h | h
      · have := cl2_mem h
        omega
      · rw [List.mem_singleton] at h
        subst h
        exact ⟨rfl, by show (0 : Int) ≤ (k : Int); omega, by show (k : Int) < ((k + 1 : Nat) : Int); omega⟩
    · have := cl2_mem h
      omega
/-- Their numbers rise. -/
theorem cl2_up {cls : Int} {want : Bool} {bs : List Bool} : ∀ {k j : Nat} {x y : Da}, (cl2 cls want bs k)[j]? = some x → (cl2 cls want bs k)[j + 1]? = some y → x.n < y.n
  | 0, j, x, y, h, _ => by simp [cl2] at h
  | k + 1, j, x, y, h, g => by
    unfold cl2 at h g
    split at h
    · rename_i hw
      rw [if_pos hw] at g
      by_cases h1 : j + 1 < (cl2 cls want bs k).length
      · rw [List.getElem?_append_left (by omega)] at h
        rw [List.getElem?_append_left h1] at g
        exact cl2_up h g
      · have hj := Shell.lt_of_get g
        rw [List.length_append, List.length_singleton] at hj
        rw [List.getElem?_append_right (by omega), show j + 1 - (cl2 cls want bs k).length = 0 by omega] at g
        rw [List.getElem?_append_left (by omega)] at h
        have := (cl2_mem (List.mem_of_getElem? h)).2.2
        simp only [List.getElem?_cons_zero, Option.some.injEq] at g
        subst g
        exact this
    · rename_i hw
      rw [if_neg hw] at g
      exact cl2_up h g
/-- What is left behind i takes. -/
theorem take_drop (r e : List Da) (i : Nat) : tR (r.drop i) = r.drop (i + 1) ∧ tE (r.drop i) (e.drop (i - r.length)) = e.drop (i + 1 - r.length) := by
  unfold tR tE
  refine ⟨by rw [List.tail_drop], ?_⟩
  by_cases h : i < r.length
  · rw [if_neg (by intro h2; have := congrArg List.length h2; rw [List.length_drop, List.length_nil] at this; omega), show i - r.length = 0 by omega, show i + 1 - r.length = 0 by omega]
  · rw [if_pos (List.drop_eq_nil_of_le (by omega)), List.tail_drop, show i - r.length + 1 = i + 1 - r.length by omega]
/-- The one that is taken at i. -/
theorem nx_at (r e : List Da) {i : Nat} {x : Da} (h : (r ++ e)[i]? = some x) : nxV (r.drop i) (e.drop (i - r.length)) = .tuple #[dv x, .bool true] := by
  unfold nxV
  by_cases h1 : i < r.length
  · rw [List.getElem?_append_left h1] at h
    rw [List.drop_eq_getElem_cons h1]
    rw [List.getElem?_eq_getElem h1] at h
    rw [Option.some.inj h]
    rfl
  · rw [List.getElem?_append_right (by omega)] at h
    have h2 := Shell.lt_of_get h
    rw [List.drop_eq_nil_of_le (by omega), List.nil_append, List.drop_eq_getElem_cons h2]
    rw [List.getElem?_eq_getElem h2] at h
    rw [Option.some.inj h]
end Go.Proofs.Ytpliidkfllacpaa.PortW
