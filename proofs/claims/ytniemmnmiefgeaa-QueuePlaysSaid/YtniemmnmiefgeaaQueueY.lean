/- DeleteFunc at a pile. -/
import Derived.Test.YtniemmnmiefgeaaQueueX
namespace Go.Proofs.Ytniemmnmiefgeaa.QueueW
open Go.RowKit
/-- What DeleteFunc keeps: the first i of M are those of L's first j that stay; the rest is L's. -/
structure DI (K : It → Bool) (i j : Nat) (M L : List It) : Prop where
  len : M.length = L.length
  lt : i < j
  le : j ≤ L.length
  head : M.take i = (L.take j).filter K
  tail : M.drop j = L.drop j
theorem take_next {L : List It} {j : Nat} {x : It} (h : L[j]? = some x) : L.take (j + 1) = L.take j ++ [x] := by
  obtain ⟨hj, ex⟩ := List.getElem?_eq_some_iff.1 h
  rw [List.take_succ_eq_append_getElem hj, ex]
theorem DI.at {K : It → Bool} {i j : Nat} {M L : List It} (h : DI K i j M L) (hj : j < L.length) : M[j]? = some (nth L j) := by
  have := congrArg (fun l => l[0]?) h.tail
  simp only [List.getElem?_drop, Nat.add_zero] at this
  rw [this]
  exact some_nth hj
theorem DI.skip {K : It → Bool} {i j : Nat} {M L : List It} (h : DI K i j M L) (hj : j < L.length) (hk : K (nth L j) = false) : DI K i (j + 1) M L := by
  refine ⟨h.len, by have := h.lt; omega, hj, ?_, ?_⟩
  · rw [take_next (some_nth hj), List.filter_append, List.filter_cons_of_neg (by simp [hk]), List.filter_nil, List.append_nil]
    exact h.head
  · have := congrArg (List.drop 1) h.tail
    rwa [List.drop_drop, List.drop_drop] at this
theorem DI.keep {K : It → Bool} {i j : Nat} {M L : List It} (h : DI K i j M L) (hj : j < L.length) (hk : K (nth L j) = true) : DI K (i + 1) (j + 1) (M.set i (nth L j)) L := by
  have hi : i < M.length := by have := h.lt; have := h.len; omega
  refine ⟨by rw [List.length_set]; exact h.len, by have := h.lt; omega, hj, ?_, ?_⟩
  · rw [take_next (some_nth hj), List.filter_append, List.filter_cons_of_pos (by simp [hk]), List.filter_nil, ← h.head]
    rw [take_next (x := nth L j) (by rw [List.getElem?_set_self hi])]
    rw [List.take_set_of_le (Nat.le_refl i)]
  · rw [List.drop_set_of_lt (by have := h.lt; omega)]
    have := congrArg (List.drop 1) h.tail
    rwa [List.drop_drop, List.drop_drop] at this
theorem DI.start {K : It → Bool} {i : Nat} {L : List It} (hi : i < L.length) (h1 : K (nth L i) = false) (h2 : ∀ t, t < i → K (nth L t) = true) : DI K i (i + 1) L L := by
  refine ⟨rfl, by omega, hi, ?_, rfl⟩
  rw [take_next (some_nth hi), List.filter_append, List.filter_cons_of_neg (by simp [h1]), List.filter_nil, List.append_nil]
  refine (List.filter_eq_self.2 fun x hx => ?_).symm
  obtain ⟨t, ht⟩ := List.getElem?_of_mem hx
  rw [List.getElem?_take] at ht
  split at ht
  · rename_i h
    have := h2 t h
    rwa [nth_some ht] at this
  · cases ht
def zeros (n : Nat) : List Value := (List.replicate n [Value.int .i64 0, .int .i64 0, .int .i64 0, .int .i64 0, .int .i64 0]).flatten
theorem zeros_len (n : Nat) : (zeros n).length = n * 5 := by unfold zeros; simp
theorem zeros_one (n : Nat) : ∀ u ∈ zeros n, u.oneCell' = true := by
  intro u hu
  unfold zeros at hu
  rw [List.mem_flatten] at hu
  obtain ⟨l, hl, hu⟩ := hu
  rw [List.mem_replicate] at hl
  rw [hl.2] at hu
  simp only [List.mem_cons, List.not_mem_nil, or_false] at hu
  rcases hu with rfl | rfl | rfl | rfl | rfl <;> rfl
theorem made5 (a b c d e : Value) : ∀ n, (List.range (n * 5)).map (fun i => #[a, b, c, d, e][i % 5]!) = (List.replicate n [a, b, c, d, e]).flatten
  | 0 => rfl
  | n + 1 => by
    rw [show (n + 1) * 5 = n * 5 + 1 + 1 + 1 + 1 + 1 by omega, List.range_succ, List.range_succ, List.range_succ, List.range_succ, List.range_succ]
    simp only [List.map_append, made5 a b c d e n, List.map_cons, List.map_nil]
    rw [List.replicate_succ', List.flatten_append]
    rw [show n * 5 % 5 = 0 by omega, show (n * 5 + 1) % 5 = 1 by omega, show (n * 5 + 1 + 1) % 5 = 2 by omega, show (n * 5 + 1 + 1 + 1) % 5 = 3 by omega, show (n * 5 + 1 + 1 + 1 + 1) % 5 = 4 by omega]
    simp
theorem zeroCells_eq (n : Nat) : (Builtin.zeroCells #[.int .i64 0, .int .i64 0, .int .i64 0, .int .i64 0, .int .i64 0] n).toList = zeros n := by
  unfold Builtin.zeroCells zeros
  simp only [Array.toList_map, Array.toList_range]
  exact made5 _ _ _ _ _ n
/-- The rest of a row cleared. -/
theorem clear_row {w : World} {g c cc i : Nat} {M : List It} (h : Row w 64 0 (.slice (some ⟨g, 0, none⟩) M.length c) M) (hi : i < M.length) (ty : TypeId) :
    ∃ w', (Builtin.clear_ #[58] ty #[.slice (some ⟨g, i * 5, none⟩) (M.length - i) cc]).run Try.prog w = .ok (.tuple #[]) w' ∧ Row w' 64 0 (.slice (some ⟨g, 0, none⟩) (M.take i).length c) (M.take i) ∧ Chg (fun j => j = g) w w' := by
  obtain ⟨_, hb, rest, hg, hl, hm⟩ := h.block
  have hz := Try.zeroValue64 w
  have hn : ¬ M.length - i = 0 := by omega
  obtain ⟨q, hq⟩ : ∃ q, M.length - i = q + 1 := ⟨M.length - i - 1, by omega⟩
  have e1 : flat M = flat (M.take i) ++ flat (M.drop i) := by rw [← flat_append, List.take_append_drop]
  have lt : (flat (M.take i)).length = i * 5 := by rw [flat_length, List.length_take, Nat.min_eq_left (by omega)]
  have ld : (flat (M.drop i)).length = (q + 1) * 5 := by rw [flat_length, List.length_drop, hq]
  have st := run_storeCells_at Try.prog g (i * 5) 64 (zeros (q + 1)) 0 _ w hg (by rw [zeros_len]; simp only [List.size_toArray]; rw [e1, List.length_append, List.length_append, lt, ld]; omega) (zeros_one _)
  have e2 : ((flat M ++ rest).toArray.toList.take (i * 5 + 0) ++ zeros (q + 1) ++ (flat M ++ rest).toArray.toList.drop (i * 5 + 0 + (zeros (q + 1)).length)) = flat (M.take i) ++ (zeros (q + 1) ++ rest) := by
    rw [zeros_len, e1, Nat.add_zero, List.append_assoc (flat (M.take i))]
    rw [← lt, List.take_left, show (flat (M.take i)).length + (q + 1) * 5 = (flat (M.take i)).length + (flat (M.drop i)).length by rw [ld], ← List.drop_drop, List.drop_left, List.drop_left, List.append_assoc]
  rw [e2] at st
  refine ⟨_, ?_, Row.mk (rest := zeros (q + 1) ++ rest) hb (setRow_heap w g _ _ _ (0, 0) hg) ?_ hm, ⟨rfl, rfl, rfl, by simp, fun j hj hx => setRow_other w g j _ hx⟩⟩
  · rw [hq]
    simp [Builtin.clear_, run_underlying Try.underlying58, hz, Value.cells, zeroCells_eq, st]
  · rw [e1] at hl
    simp only [List.length_append, lt, ld, zeros_len] at hl ⊢
    omega
end Go.Proofs.Ytniemmnmiefgeaa.QueueW
