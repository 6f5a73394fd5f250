/- How long a text is in which a text was replaced (the model's texts of Go's own panics are made so). Of no program. -/
import Derived.ProofKit
namespace Go.Proofs.YtjglgglolbkjlaaDoor.Shell
open String.Slice.Pattern String.Slice.Pattern.Model
theorem size_app (x : String) (s : String.Slice) : (x ++ s).utf8ByteSize = x.utf8ByteSize + s.utf8ByteSize := by simp
theorem fold_bound (pat rep : String) (h : pat ≠ "") (s : String.Slice) : ∀ (pos : s.Pos) (l : List (SearchStep s)), IsValidSearchFrom pat pos l → ∀ acc : String,
    (l.foldl (fun x x_1 => match x, x_1 with
      | sofar, String.Slice.Pattern.SearchStep.matched _ _ => sofar ++ String.ToSlice.toSlice rep
      | sofar, String.Slice.Pattern.SearchStep.rejected start stop => sofar ++ s.slice! start stop) acc).utf8ByteSize ≤ acc.utf8ByteSize + (s.utf8ByteSize - pos.offset.byteIdx) * (1 + rep.utf8ByteSize) := by
  intro pos l hv
  haveI := ForwardStringSearcher.strictPatternModel h
  induction hv with
  | endPos => intro acc; simp
  | @matched l startPos endPos hm _ ih =>
    intro acc
    have hlt : startPos.offset.byteIdx < endPos.offset.byteIdx := hm.lt
    have hle := endPos.byteIdx_offset_le_utf8ByteSize
    have hr : (String.ToSlice.toSlice rep).utf8ByteSize = rep.utf8ByteSize := String.utf8ByteSize_toSlice
    rw [List.foldl_cons]
    refine Nat.le_trans (ih _) ?_
    show (acc ++ String.ToSlice.toSlice rep).utf8ByteSize + _ ≤ _
    rw [size_app, hr, Nat.add_assoc]
    refine Nat.add_le_add_left ?_ _
    obtain ⟨d, hd⟩ : ∃ d, s.utf8ByteSize - startPos.offset.byteIdx = (s.utf8ByteSize - endPos.offset.byteIdx) + 1 + d := ⟨s.utf8ByteSize - startPos.offset.byteIdx - (s.utf8ByteSize - endPos.offset.byteIdx) - 1, by omega⟩
    rw [hd, Nat.add_mul, Nat.add_mul]
    omega
  | @mismatched l startPos endPos hlt _ _ ih =>
    intro acc
    have hl : startPos.offset.byteIdx < endPos.offset.byteIdx := hlt
    have hle := endPos.byteIdx_offset_le_utf8ByteSize
    have h1 : startPos ≤ endPos := Nat.le_of_lt hl
    rw [List.foldl_cons]
    refine Nat.le_trans (ih _) ?_
    show (acc ++ s.slice! startPos endPos).utf8ByteSize + _ ≤ _
    rw [size_app, ← String.Slice.slice_eq_slice! (h := h1), String.Slice.utf8ByteSize_slice, Nat.add_assoc]
    refine Nat.add_le_add_left ?_ _
    show (endPos.offset.byteIdx - startPos.offset.byteIdx) + _ ≤ _
    obtain ⟨d, hd⟩ : ∃ d, endPos.offset.byteIdx - startPos.offset.byteIdx = d := ⟨_, rfl⟩
    rw [hd, show s.utf8ByteSize - startPos.offset.byteIdx = (s.utf8ByteSize - endPos.offset.byteIdx) + d by omega, Nat.add_mul, Nat.mul_add d, Nat.mul_one]
    omega
/-- A text in which a text was replaced by another: so long at most. -/
theorem replace_size (s pat rep : String) (h : pat ≠ "") : (s.replace pat rep).utf8ByteSize ≤ s.utf8ByteSize * (1 + rep.utf8ByteSize) := by
  have hv := (ForwardStringSearcher.lawfulToForwardSearcherModel h).isValidSearchFrom_toList s.toSlice
  have hb := fold_bound pat rep h s.toSlice _ _ hv ""
  rw [Std.Iter.foldl_toList] at hb
  refine Nat.le_trans hb ?_
  have hz : "".utf8ByteSize = 0 := rfl
  rw [hz, Nat.zero_add, String.utf8ByteSize_toSlice]
  exact Nat.mul_le_mul_right _ (Nat.sub_le _ _)
theorem size_list : ∀ l : List Char, (String.ofList l).utf8ByteSize ≤ 4 * l.length
  | [] => by simp
  | c :: l => by
    rw [String.ofList_cons, String.utf8ByteSize_append, String.utf8ByteSize_singleton, List.length_cons]
    have := size_list l
    have := c.utf8Size_le_four
    omega
theorem size_le (s : String) : s.utf8ByteSize ≤ 4 * s.length := by
  have h := size_list s.toList
  rwa [String.ofList_toList, String.length_toList] at h
/-- A number's numeral is short. -/
theorem size_num (x : Int) (h : -18446744073709551616 ≤ x ∧ x ≤ 18446744073709551616) : (toString x).utf8ByteSize ≤ 81 := by
  have hn : ∀ n : Nat, n < 100000000000000000000 → (n.repr).utf8ByteSize ≤ 80 := fun n hn => by
    have h1 := (Nat.length_repr_le_iff (n := n) (k := 20) (by decide)).2 hn
    have h2 := size_le n.repr
    omega
  show x.repr.utf8ByteSize ≤ 81
  rw [Int.repr_eq_if]
  split
  · exact Nat.le_trans (hn _ (by omega)) (by decide)
  · rw [String.utf8ByteSize_append]
    have h1 : "-".utf8ByteSize = 1 := rfl
    have h2 := hn (-x).toNat (by omega)
    omega
end Go.Proofs.YtjglgglolbkjlaaDoor.Shell
