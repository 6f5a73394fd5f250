/- The chapter's examples. -/
import Derived.Test.YtniemmnmiefgeaaQueueM
import Derived.Test.YtniemmnmiefgeaaQueueOS
import Derived.Test.YtniemmnmiefgeaaQueueOI
namespace Go.Proofs.Ytniemmnmiefgeaa.QueueW
open Go.RowKit Shell
abbrev fa : It := ⟨5, 0, 0, 0, .string ⟨#[97]⟩, rfl⟩
abbrev fb : It := ⟨3, 9, 0, 1, .string ⟨#[98]⟩, rfl⟩
abbrev fc : It := ⟨3, 1, 7, 2, .string ⟨#[99]⟩, rfl⟩
abbrev fd : It := ⟨3, 1, 2, 3, .string ⟨#[100]⟩, rfl⟩
abbrev fe : It := ⟨3, 1, 2, 4, .string ⟨#[101]⟩, rfl⟩
theorem fix0 : ins fa [] = [fa] := by simp [ins]
theorem fix1 : ins fb [fa] = [fb, fa] := by simp [ins, lt]
theorem fix2 : ins fc [fb, fa] = [fc, fb, fa] := by simp [ins, lt]
theorem fix3 : ins fd [fc, fb, fa] = [fd, fc, fb, fa] := by simp [ins, lt]
theorem fix4 : ins fe [fd, fc, fb, fa] = [fd, fe, fc, fb, fa] := by simp [ins, lt]
theorem fixP (w : World) : Calls Try.prog 9 #[.int .i64 3, .slice (some ⟨w.heap.size, 0, none⟩) 2 2] (w.alloc (.cells #[.int .i64 1, .int .i64 4, .int .i64 0, .int .i64 0, .int .i64 9, .int .i64 3, .int .i64 0, .int .i64 0, .int .i64 0, .int .i64 0] 28)) fun e w' => ∃ g, e = .returned (.slice (some ⟨g, 0, none⟩) 2 2) ∧ w'.cell? ⟨g, 4, none⟩ = some (.int .i64 9) ∧ w'.cell? ⟨g, 5, none⟩ = some (.int .i64 4) ∧ Below w.heap.size w w' := by
  have hA : RO (w.alloc (.cells #[.int .i64 1, .int .i64 4, .int .i64 0, .int .i64 0, .int .i64 9, .int .i64 3, .int .i64 0, .int .i64 0, .int .i64 0, .int .i64 0] 28)) (some ⟨w.heap.size, 0, none⟩) [⟨1, 4, 0, 0, 9⟩, ⟨3, 0, 0, 0, 0⟩] := by
    have hg := heap_alloc_new w (.cells #[.int .i64 1, .int .i64 4, .int .i64 0, .int .i64 0, .int .i64 9, .int .i64 3, .int .i64 0, .int .i64 0, .int .i64 0, .int .i64 0] 28)
    intro k xs hk
    match k, hk with
    | 0, hk =>
      simp only [List.map_cons, List.getElem?_cons_zero, Option.some.injEq] at hk
      subst hk
      refine ⟨rfl, _, rfl, fun i q x hq hx => ?_⟩
      match i, hq, hx with
      | 0, hq, hx => simp [Op5.l] at hq hx; subst hq; subst hx; exact ⟨cell_of_row _ _ 0 _ _ _ hg, by decide⟩
      | 1, hq, hx => simp [Op5.l] at hq hx; subst hq; subst hx; exact ⟨cell_of_row _ _ 1 _ _ _ hg, by decide⟩
      | 2, hq, hx => simp [Op5.l] at hq hx; subst hq; subst hx; exact ⟨cell_of_row _ _ 2 _ _ _ hg, by decide⟩
      | 3, hq, hx => simp [Op5.l] at hq hx; subst hq; subst hx; exact ⟨cell_of_row _ _ 3 _ _ _ hg, by decide⟩
      | 4, hq, hx => simp [Op5.l] at hq hx; subst hq; subst hx; exact ⟨cell_of_row _ _ 4 _ _ _ hg, by decide⟩
      | i + 5, hq, hx => simp at hq
    | 1, hk =>
      simp only [List.map_cons, List.getElem?_cons_succ, List.getElem?_cons_zero, Option.some.injEq] at hk
      subst hk
      refine ⟨rfl, _, rfl, fun i q x hq hx => ?_⟩
      match i, hq, hx with
      | 0, hq, hx => simp [Op5.l] at hq hx; subst hq; subst hx; exact ⟨cell_of_row _ _ 5 _ _ _ hg, by decide⟩
      | 1, hq, hx => simp [Op5.l] at hq hx; subst hq; subst hx; exact ⟨cell_of_row _ _ 6 _ _ _ hg, by decide⟩
      | 2, hq, hx => simp [Op5.l] at hq hx; subst hq; subst hx; exact ⟨cell_of_row _ _ 7 _ _ _ hg, by decide⟩
      | 3, hq, hx => simp [Op5.l] at hq hx; subst hq; subst hx; exact ⟨cell_of_row _ _ 8 _ _ _ hg, by decide⟩
      | 4, hq, hx => simp [Op5.l] at hq hx; subst hq; subst hx; exact ⟨cell_of_row _ _ 9 _ _ _ hg, by decide⟩
      | i + 5, hq, hx => simp at hq
    | k + 2, hk => simp at hk
  refine (playsI_any 3 _ [⟨1, 4, 0, 0, 9⟩, ⟨3, 0, 0, 0, 0⟩] 2 _ hA (by decide) (fun o ho => playC_not5 o ?_)).mono ?_
  · simp only [List.mem_cons, List.not_mem_nil, or_false] at ho
    rcases ho with rfl | rfl <;> decide
  · rintro e w' ⟨g, rfl, tr, b, _⟩
    have t1 := tr.cells (i := 1) (x := ⟨9, 4, true, 0⟩) (by simp [answers, ansD, nxtS, Op5.S, most, ins, It.num])
    exact ⟨g, rfl, t1.1, t1.2.1, ((Below.refl _ _).alloc (Nat.le_refl _) _).trans (b.mono (by simp))⟩
set_option maxHeartbeats 4000000 in
set_option maxRecDepth 100000 in
theorem fixed_any (w : World) : Calls Try.prog 8 #[] w fun e w' => e = .returned (.bool true) ∧ Below w.heap.size w w' := by
  go_enter Try.func8, Try.ntmps8
  go_wp2_with fail
  refine (newS_at (w := w) (K := []) 5 (Below.refl _ _) (fun x hx => by cases hx)).mono ?_
  rintro e w0 ⟨rfl, h⟩
  have H0 := Lib.hid (show OQS w w0 [] w.heap.size 5 0 (.slice none 0 0) [] from h)
  generalize w.heap.size = k at *
  clear h
  go_wp2_with fail
  refine (H0.out.push 5 0 0 (⟨#[97]⟩ : ByteArray) (by decide) (by decide) (by decide)).mono ?_
  rintro e w1 ⟨rfl, v1, h⟩
  have H1 := Lib.hid (show OQS w w1 [] k 5 1 v1 [fa] from fix0 ▸ h)
  clear h H0
  go_wp2_with fail
  refine (H1.out.push 3 9 0 (⟨#[98]⟩ : ByteArray) (by decide) (by decide) (by decide)).mono ?_
  rintro e w2 ⟨rfl, v2, h⟩
  have H2 := Lib.hid (show OQS w w2 [] k 5 2 v2 [fb, fa] from fix1 ▸ h)
  clear h H1
  go_wp2_with fail
  refine (H2.out.push 3 1 7 (⟨#[99]⟩ : ByteArray) (by decide) (by decide) (by decide)).mono ?_
  rintro e w3 ⟨rfl, v3, h⟩
  have H3 := Lib.hid (show OQS w w3 [] k 5 3 v3 [fc, fb, fa] from fix2 ▸ h)
  clear h H2
  go_wp2_with fail
  refine (H3.out.push 3 1 2 (⟨#[100]⟩ : ByteArray) (by decide) (by decide) (by decide)).mono ?_
  rintro e w4 ⟨rfl, v4, h⟩
  have H4 := Lib.hid (show OQS w w4 [] k 5 4 v4 [fd, fc, fb, fa] from fix3 ▸ h)
  clear h H3
  go_wp2_with fail
  refine (H4.out.push 3 1 2 (⟨#[101]⟩ : ByteArray) (by decide) (by decide) (by decide)).mono ?_
  rintro e w5 ⟨rfl, v5, h⟩
  have H5 := Lib.hid (show OQS w w5 [] k 5 5 v5 [fd, fe, fc, fb, fa] from fix4 ▸ h)
  clear h H4
  go_wp2_with fail
  refine (H5.out.full 0 0 0 _ (by decide)).mono ?_
  rintro e w6 ⟨rfl, h⟩
  have H6 := Lib.hid h
  clear h H5
  go_wp2_with fail
  refine (H6.out.len).mono ?_
  rintro e w7 ⟨rfl, h⟩
  have H7 := Lib.hid h
  clear h H6
  go_wp2_with fail
  refine (H7.out.peek).mono ?_
  rintro e w8 ⟨rfl, h⟩
  have H8 := Lib.hid h
  clear h H7
  go_wp2_with fail
  go_loopw [5, 57] (fun sv iv wr => ∃ (j : Nat) (v : Value), iv = .int .i64 j ∧ ((j = 0 ∧ sv = .string ⟨#[]⟩ ∧ Hid (OQS w wr [] k 5 5 v [fd, fe, fc, fb, fa])) ∨ (j = 1 ∧ sv = .string ⟨#[100]⟩ ∧ Hid (OQS w wr [] k 5 5 v [fe, fc, fb, fa])) ∨ (j = 2 ∧ sv = .string ⟨#[100, 101]⟩ ∧ Hid (OQS w wr [] k 5 5 v [fc, fb, fa])) ∨ (j = 3 ∧ sv = .string ⟨#[100, 101, 99]⟩ ∧ Hid (OQS w wr [] k 5 5 v [fb, fa])) ∨ (j = 4 ∧ sv = .string ⟨#[100, 101, 99, 98]⟩ ∧ Hid (OQS w wr [] k 5 5 v [fa])) ∨ (j = 5 ∧ sv = .string ⟨#[100, 101, 99, 98, 97]⟩ ∧ Hid (OQS w wr [] k 5 5 v [])))) (fun _ iv _ => 5 - (intOf iv).toNat)
  case atStart => exact ⟨0, _, rfl, Or.inl ⟨rfl, rfl, H8⟩⟩
  case round =>
    clear H8
    obtain ⟨j, v, rfl, hr⟩ := hrel
    rcases hr with ⟨rfl, rfl, H⟩ | ⟨rfl, rfl, H⟩ | ⟨rfl, rfl, H⟩ | ⟨rfl, rfl, H⟩ | ⟨rfl, rfl, H⟩ | ⟨rfl, rfl, H⟩
    · go_wp2_with fail
      refine (H.out.pop).mono ?_
      rintro e w9 ⟨rfl, v9, h⟩
      have HH := Lib.hid h
      clear h H
      go_wp2
      go_roundw
      case rel =>
        have h := HH.out
        exact ⟨1, v9, rfl, Or.inr (Or.inl ⟨rfl, rfl, Lib.hid h⟩)⟩
      case measure => simp [intOf]
    · go_wp2_with fail
      refine (H.out.pop).mono ?_
      rintro e w9 ⟨rfl, v9, h⟩
      have HH := Lib.hid h
      clear h H
      go_wp2
      go_roundw
      case rel =>
        have h := HH.out
        exact ⟨2, v9, rfl, Or.inr (Or.inr (Or.inl ⟨rfl, rfl, Lib.hid h⟩))⟩
      case measure => simp [intOf]
    · go_wp2_with fail
      refine (H.out.pop).mono ?_
      rintro e w9 ⟨rfl, v9, h⟩
      have HH := Lib.hid h
      clear h H
      go_wp2
      go_roundw
      case rel =>
        have h := HH.out
        exact ⟨3, v9, rfl, Or.inr (Or.inr (Or.inr (Or.inl ⟨rfl, rfl, Lib.hid h⟩)))⟩
      case measure => simp [intOf]
    · go_wp2_with fail
      refine (H.out.pop).mono ?_
      rintro e w9 ⟨rfl, v9, h⟩
      have HH := Lib.hid h
      clear h H
      go_wp2
      go_roundw
      case rel =>
        have h := HH.out
        exact ⟨4, v9, rfl, Or.inr (Or.inr (Or.inr (Or.inr (Or.inl ⟨rfl, rfl, Lib.hid h⟩))))⟩
      case measure => simp [intOf]
    · go_wp2_with fail
      refine (H.out.pop).mono ?_
      rintro e w9 ⟨rfl, v9, h⟩
      have HH := Lib.hid h
      clear h H
      go_wp2
      go_roundw
      case rel =>
        have h := HH.out
        exact ⟨5, v9, rfl, Or.inr (Or.inr (Or.inr (Or.inr (Or.inr (⟨rfl, rfl, Lib.hid h⟩)))))⟩
      case measure => simp [intOf]
    · go_wp2_with fail
      refine (H.out.pop0).mono ?_
      rintro e w9 ⟨rfl, h⟩
      have B9 := Lib.hid h.b
      clear h H
      go_wp2_with fail
      refine (fixP _).mono ?_
      rintro e w10 ⟨g, rfl, c0, c1, b1⟩
      have B10 := Lib.hid (B9.out.trans (b1.mono B9.out.size))
      clear b1 B9
      go_wp2
      go_ret
      exact ⟨rfl, B10.out⟩
end Go.Proofs.Ytniemmnmiefgeaa.QueueW
