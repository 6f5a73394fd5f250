/- Plain mathematics: hexadecimal digits. -/
import Derived.Test.YtgcmjmnolkojhaaDoorNumList
namespace Go.Proofs.YtgcmjmnolkojhaaDoor.NumP
/-- A digit's byte. -/
def dg (n : Nat) : Int := if n < 10 then 48 + (n : Int) else 87 + (n : Int)
/-- The k lowest digits of a number, the highest first. -/
def hexF : Nat → Nat → List Int
  | 0, _ => []
  | k + 1, u => dg (u / 16 ^ k % 16) :: hexF k u
theorem hexF_len (k u : Nat) : (hexF k u).length = k := by
  induction k with
  | zero => rfl
  | succ k ih => unfold hexF; rw [List.length_cons, ih]
theorem hexF_pad (i j u : Nat) (h : u < 16 ^ j) : hexF (i + j) u = List.replicate i 48 ++ hexF j u := by
  induction i with
  | zero => rw [Nat.zero_add]; rfl
  | succ i ih =>
    rw [show i + 1 + j = (i + j) + 1 by omega]
    show dg (u / 16 ^ (i + j) % 16) :: hexF (i + j) u = _
    have e : u / 16 ^ (i + j) = 0 := Nat.div_eq_of_lt (Nat.lt_of_lt_of_le h (Nat.pow_le_pow_right (by decide) (by omega)))
    rw [e, ih, List.replicate_succ]
    rfl
theorem and15 (u : Nat) (h : u < 18446744073709551616) : bits .and .u64 (u : Int) 15 = ((u % 16 : Nat) : Int) := by
  have e := u64_and_nat u 15 h (by decide)
  have e2 : ((15 : Nat) : Int) = 15 := rfl
  rw [e2] at e
  rw [e]
  have e3 : (15 : Nat) = 2 ^ 4 - 1 := by decide
  rw [e3, Nat.and_two_pow_sub_one_eq_mod]
/-- The last k cells of a row of 65 are the k lowest digits. -/
def Tail (u k : Nat) (C : Array Value) : Prop := C.size = 65 ∧ ∀ j, j < k → C[65 - k + j]? = some (.int .u8 ((hexF k u).getD j 0))
theorem Tail.start (u : Nat) (C : Array Value) (h : C.size = 65) : Tail u 0 C := ⟨h, fun j hj => absurd hj (Nat.not_lt_zero j)⟩
theorem Tail.next {u k : Nat} {C : Array Value} (h : Tail u k C) (hk : k ≤ 15) : Tail u (k + 1) (C.setIfInBounds (64 - k) (.int .u8 (dg (u / 16 ^ k % 16)))) := by
  refine ⟨by rw [Array.size_setIfInBounds]; exact h.1, fun j hj => ?_⟩
  show _ = some (Value.int .u8 ((dg (u / 16 ^ k % 16) :: hexF k u).getD j 0))
  rw [Array.getElem?_setIfInBounds]
  cases j with
  | zero => rw [if_pos (by omega), if_pos (by rw [h.1]; omega)]; rfl
  | succ j =>
    rw [if_neg (by omega)]
    have := h.2 j (by omega)
    rw [show 65 - (k + 1) + (j + 1) = 65 - k + j by omega, this]
    rfl
end Go.Proofs.YtgcmjmnolkojhaaDoor.NumP
