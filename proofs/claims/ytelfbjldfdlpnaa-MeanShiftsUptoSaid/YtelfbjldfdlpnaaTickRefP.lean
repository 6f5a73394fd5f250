/- Plain mathematics: the document's numbers, as digits of 16 bits, the lowest first. -/
import Derived.WalkKit
namespace Go.Proofs.Ytelfbjldfdlpnaa.TickW
/-- The digits of a size, the lowest first, without noughts ahead. -/
def dl (m : Nat) : List Nat := if h : m = 0 then [] else m % 65536 :: dl (m / 65536)
termination_by m
decreasing_by omega
def val : List Nat → Nat
  | [] => 0
  | d :: r => d + 65536 * val r
theorem dl_zero : dl 0 = [] := by rw [dl, dif_pos rfl]
theorem dl_pos {m : Nat} (h : 0 < m) : dl m = m % 65536 :: dl (m / 65536) := by rw [dl, dif_neg (by omega)]
theorem val_dl (m : Nat) : val (dl m) = m := by
  induction m using Nat.strongRecOn with
  | _ m ih =>
    rcases Nat.eq_zero_or_pos m with rfl | h
    · rw [dl_zero]; rfl
    · rw [dl_pos h, val, ih (m / 65536) (by omega)]; omega
theorem dl_lt (m : Nat) : ∀ d ∈ dl m, d < 65536 := by
  induction m using Nat.strongRecOn with
  | _ m ih =>
    rcases Nat.eq_zero_or_pos m with rfl | h
    · rw [dl_zero]; intro d hd; cases hd
    · rw [dl_pos h]
      intro d hd
      rcases List.mem_cons.1 hd with rfl | hd
      · omega
      · exact ih (m / 65536) (by omega) d hd
theorem dl_nil {m : Nat} : dl m = [] ↔ m = 0 := by
  constructor
  · intro h
    have := val_dl m
    rw [h] at this
    exact this.symm
  · rintro rfl; exact dl_zero
/-- Digits whose highest is not 0 are those of their value. -/
theorem dl_val : ∀ (l : List Nat), (∀ d ∈ l, d < 65536) → l.getLast? ≠ some 0 → dl (val l) = l := by
  intro l
  induction l with
  | nil => intro _ _; exact dl_zero
  | cons d r ih =>
    intro h hl
    have hd := h d List.mem_cons_self
    have hr : ∀ x ∈ r, x < 65536 := fun x hx => h x (List.mem_cons_of_mem _ hx)
    have hpos : 0 < val (d :: r) := by
      cases r with
      | nil =>
        rw [val, val]
        have : d ≠ 0 := fun e => hl (by rw [e]; rfl)
        omega
      | cons x t =>
        have h2 := ih hr (by rw [List.getLast?_cons_cons] at hl; exact hl)
        have : val (x :: t) ≠ 0 := fun e => by rw [e, dl_zero] at h2; cases h2
        rw [val]; omega
    have h3 : r.getLast? ≠ some 0 := by
      cases r with
      | nil => simp
      | cons x t => rw [List.getLast?_cons_cons] at hl; exact hl
    have e1 : val (d :: r) % 65536 = d := by rw [val]; omega
    have e2 : val (d :: r) / 65536 = val r := by rw [val]; omega
    rw [dl_pos hpos, e1, e2, ih hr h3]
theorem val_append (l : List Nat) (d : Nat) : val (l ++ [d]) = val l + d * 65536 ^ l.length := by
  induction l with
  | nil => simp [val]
  | cons x l ih =>
    rw [List.cons_append, val, val, ih, List.length_cons, Nat.pow_succ, Nat.mul_add, ← Nat.add_assoc]
    congr 1
    rw [← Nat.mul_assoc, Nat.mul_comm 65536 d, Nat.mul_assoc, Nat.mul_comm 65536]
theorem val_lt : ∀ (l : List Nat), (∀ d ∈ l, d < 65536) → val l < 65536 ^ l.length := by
  intro l
  induction l with
  | nil => intro _; decide
  | cons d r ih =>
    intro h
    have h1 := ih (fun x hx => h x (List.mem_cons_of_mem _ hx))
    have h2 := h d List.mem_cons_self
    rw [val, List.length_cons, Nat.pow_succ]
    omega
theorem dl_length_le {m n : Nat} (h : m < 65536 ^ n) : (dl m).length ≤ n := by
  induction n generalizing m with
  | zero => have : m = 0 := by simpa using h
            rw [this, dl_zero]; exact Nat.le_refl _
  | succ n ih =>
    rcases Nat.eq_zero_or_pos m with rfl | hp
    · rw [dl_zero]; exact Nat.zero_le _
    · rw [dl_pos hp, List.length_cons]
      have := ih (m := m / 65536) (by rw [Nat.pow_succ] at h; omega)
      omega
/-- The k-th digit. -/
theorem dl_get (m k : Nat) : (dl m)[k]? = if 0 < m / 65536 ^ k then some (m / 65536 ^ k % 65536) else none := by
  induction k generalizing m with
  | zero =>
    rw [Nat.pow_zero, Nat.div_one]
    rcases Nat.eq_zero_or_pos m with rfl | h
    · rw [dl_zero]; rfl
    · rw [dl_pos h, if_pos h]; rfl
  | succ k ih =>
    have e : m / 65536 ^ (k + 1) = m / 65536 / 65536 ^ k := by rw [Nat.pow_succ, Nat.mul_comm, ← Nat.div_div_eq_div_mul]
    rcases Nat.eq_zero_or_pos m with rfl | h
    · rw [dl_zero, Nat.zero_div]; simp
    · rw [dl_pos h, List.getElem?_cons_succ, ih, e]
/-- So many digits as there are powers not above. -/
theorem dl_lt_length (m k : Nat) : k < (dl m).length ↔ 0 < m / 65536 ^ k := by
  have h := dl_get m k
  constructor
  · intro hk
    rw [List.getElem?_eq_getElem hk] at h
    by_cases h2 : 0 < m / 65536 ^ k
    · exact h2
    · rw [if_neg h2] at h; cases h
  · intro hp
    rw [if_pos hp] at h
    rcases Nat.lt_or_ge k (dl m).length with h2 | h2
    · exact h2
    · rw [List.getElem?_eq_none h2] at h; cases h
theorem dl_take_succ (m k : Nat) (h : k < (dl m).length) : (dl m).take (k + 1) = (dl m).take k ++ [m / 65536 ^ k % 65536] := by
  rw [List.take_add_one, dl_get, if_pos ((dl_lt_length m k).1 h)]
  rfl
end Go.Proofs.Ytelfbjldfdlpnaa.TickW

