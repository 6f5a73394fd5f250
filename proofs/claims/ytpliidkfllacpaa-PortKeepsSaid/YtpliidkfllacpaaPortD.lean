/- The landed port in memory: two rows of frames behind one box; Len, of, next, Lost, New. -/
import Derived.Test.YtpliidkfllacpaaPortC
import Derived.Laws.Pointers
namespace Go.Proofs.Ytpliidkfllacpaa.PortW
open Go.RowKit Shell
theorem cells4 {w : World} {j : Nat} {x y z u : Value} {t : TypeId} (h : w.heap[j]? = some (.cells #[x, y, z, u] t (0, 0))) : w.cell? ⟨j, 0, none⟩ = some x ∧ w.cell? ⟨j, 1, none⟩ = some y ∧ w.cell? ⟨j, 2, none⟩ = some z ∧ w.cell? ⟨j, 3, none⟩ = some u :=
  ⟨cell_of_row w j 0 _ _ _ h, cell_of_row w j 1 _ _ _ h, cell_of_row w j 2 _ _ _ h, cell_of_row w j 3 _ _ _ h⟩
theorem frozen4 {w : World} {j : Nat} {x y z u : Value} {t : TypeId} (h : w.heap[j]? = some (.cells #[x, y, z, u] t (0, 0))) : w.frozen? ⟨j, 0, none⟩ = false ∧ w.frozen? ⟨j, 1, none⟩ = false ∧ w.frozen? ⟨j, 2, none⟩ = false ∧ w.frozen? ⟨j, 3, none⟩ = false :=
  ⟨frozen_of_row w j 0 _ _ h, frozen_of_row w j 1 _ _ h, frozen_of_row w j 2 _ _ h, frozen_of_row w j 3 _ _ h⟩
/-- A port's box. -/
abbrev pbx (m l : Int) (vr ve : Value) : Obj := .cells #[.int .i64 m, .int .i64 l, vr, ve] 49 (0, 0)
/-- A port in memory: its box at g, its two rows. -/
structure PM (lo g m : Nat) (r e : List Da) (l : Nat) (vr ve : Value) (W : World) : Prop where
  b : W.heap[g]? = some (pbx m l vr ve)
  lw : lo ≤ g
  ra : LS FD W lo vr r
  ef : LS FD W lo ve e
  nr : vr.ownBlock ≠ some g
  ne : ve.ownBlock ≠ some g
  d : ∀ j, vr.ownBlock = some j → ve.ownBlock ≠ some j
  len : r.length + e.length ≤ m
  m64 : m ≤ 64
def XP (g : Nat) (vr ve : Value) (j : Nat) : Prop := j = g ∨ vr.ownBlock = some j ∨ ve.ownBlock = some j
def PI (lo : Nat) (X : Nat → Prop) (g m : Nat) (r e : List Da) (l : Nat) (W : World) : Prop := ∃ vr ve, PM lo g m r e l vr ve W ∧ X = XP g vr ve
section
variable {lo lo' g m l : Nat} {r e : List Da} {vr ve : Value} {W W1 : World} {X : Nat → Prop}
theorem PM.keep (h : PM lo g m r e l vr ve W) (hs : W.heap.size ≤ W1.heap.size) (hk : ∀ j, XP g vr ve j → W1.heap[j]? = W.heap[j]?) : PM lo g m r e l vr ve W1 :=
  ⟨(hk g (Or.inl rfl)).trans h.b, h.lw, h.ra.of_block (fun j hj => hk j (Or.inr (Or.inl hj))) hs, h.ef.of_block (fun j hj => hk j (Or.inr (Or.inr hj))) hs, h.nr, h.ne, h.d, h.len, h.m64⟩
theorem PM.lt (h : PM lo g m r e l vr ve W) : ∀ j, XP g vr ve j → lo ≤ j ∧ j < W.heap.size := by
  rintro j (rfl | hj | hj)
  · exact ⟨h.lw, lt_of_heap h.b⟩
  · exact h.ra.lt j hj
  · exact h.ef.lt j hj
theorem PM.below (h : PM lo g m r e l vr ve W) (b : Below W.heap.size W W1) : PM lo g m r e l vr ve W1 := h.keep b.size (fun j hj => b.block j (h.lt j hj).2)
theorem PM.lower (h : PM lo g m r e l vr ve W) (hl : lo' ≤ lo) : PM lo' g m r e l vr ve W := ⟨h.b, Nat.le_trans hl h.lw, h.ra.rebase hl, h.ef.rebase hl, h.nr, h.ne, h.d, h.len, h.m64⟩
end
section
variable {lo g m l : Nat} {r e : List Da} {vr ve : Value} {W : World}
set_option maxHeartbeats 2000000 in
theorem len_m (h : PM lo g m r e l vr ve W) : Calls Try.prog 17 #[.pointer (some ⟨g, 0, none⟩)] W fun v W' => v = .returned (.int .i64 ((r.length + e.length : Nat) : Int)) ∧ Below W.heap.size W W' := by
  obtain ⟨A, c, rfl, -⟩ := h.ra.form
  obtain ⟨B, d, rfl, -⟩ := h.ef.form
  have hb := h.len
  have hb2 := h.m64
  obtain ⟨c0, c1, c2, c3⟩ := cells4 h.b
  generalize r.length = p at *
  generalize e.length = q at *
  have e1 : IntKind.i64.wrap ((p : Int) + (q : Int)) = ((p + q : Nat) : Int) := by rw [IntKind.wrap_i64]; omega
  have e2 : wrap64 ((p : Int) + (q : Int)) = ((p + q : Nat) : Int) := by unfold wrap64; omega
  clear h hb hb2
  go_enter Try.func17, Try.ntmps17
  go_wp2
  go_region
  go_wp2
  go_ret
  exact ⟨rfl, (Below.refl _ _).drew⟩
theorem len_n (W : World) : Calls Try.prog 17 #[.pointer none] W fun v W' => v = .returned (.int .i64 0) ∧ Below W.heap.size W W' := by
  go_enter Try.func17, Try.ntmps17
  go_wp2
  go_ret
  exact ⟨rfl, Below.refl _ _⟩
theorem lost_n (W : World) : Calls Try.prog 18 #[.pointer none] W fun v W' => v = .returned (.int .i64 0) ∧ Below W.heap.size W W' := by
  go_enter Try.func18, Try.ntmps18
  go_wp2
  go_ret
  exact ⟨rfl, Below.refl _ _⟩
theorem lost_m (h : PM lo g m r e l vr ve W) : Calls Try.prog 18 #[.pointer (some ⟨g, 0, none⟩)] W fun v W' => v = .returned (.int .i64 (l : Int)) ∧ Below W.heap.size W W' := by
  obtain ⟨c0, c1, c2, c3⟩ := cells4 h.b
  clear h
  go_enter Try.func18, Try.ntmps18
  go_wp2
  go_ret
  exact ⟨rfl, Below.refl _ _⟩
theorem of_any (c : Int) (W : World) : Calls Try.prog 21 #[.pointer (some ⟨g, 0, none⟩), .int .i64 c] W fun v W' => v = .returned (.pointer (some ⟨g, if c = 2 then 2 else 3, none⟩)) ∧ W = W' := by
  by_cases h : c = 2
  · subst h
    go_enter Try.func21, Try.ntmps21
    go_wp2
    go_ret
    exact ⟨rfl, rfl⟩
  · have q1 : (c == 2) = false := by rw [beq_eq_false_iff_ne]; exact h
    rw [if_neg h]
    clear h
    go_enter Try.func21, Try.ntmps21
    go_wp2
    go_ret
    exact ⟨rfl, rfl⟩
theorem next_n (W : World) : Calls Try.prog 22 #[.pointer none] W fun v W' => v = .returned (.pointer none) ∧ Below W.heap.size W W' := by
  go_enter Try.func22, Try.ntmps22
  go_wp2_with fail
  refine (len_n _).mono ?_
  rintro v w1 ⟨rfl, b1⟩
  have B1 := Lib.hid b1
  clear b1
  go_wp2
  go_ret
  exact ⟨rfl, B1.out⟩
/-- Where the next one's row lies. -/
def nxA (g : Nat) (r e : List Da) : Value := match r, e with
  | _ :: _, _ => .pointer (some ⟨g, 2, none⟩)
  | [], _ :: _ => .pointer (some ⟨g, 3, none⟩)
  | [], [] => .pointer none
theorem next_m (h : PM lo g m r e l vr ve W) : Calls Try.prog 22 #[.pointer (some ⟨g, 0, none⟩)] W fun v W' => v = .returned (nxA g r e) ∧ Below W.heap.size W W' := by
  have HM := Lib.hid h
  have L := len_m h
  rcases r with _ | ⟨x, r⟩
  · rcases e with _ | ⟨y, e⟩
    · have HL := Lib.hid L
      clear L h
      go_enter Try.func22, Try.ntmps22
      go_wp2_with fail
      refine HL.out.mono ?_
      rintro v w1 ⟨hv, b1⟩
      obtain rfl : v = .returned (.int .i64 0) := hv
      have B1 := Lib.hid b1
      clear b1
      go_wp2
      go_ret
      exact ⟨rfl, B1.out⟩
    · obtain ⟨A, c, rfl, -⟩ := h.ra.form
      obtain ⟨n, hn⟩ : ∃ n, ([] : List Da).length + (y :: e).length = n := ⟨_, rfl⟩
      have q1 : ((n : Int) == 0) = false := by rw [beq_eq_false_iff_ne]; simp at hn; omega
      rw [hn] at L
      have HL := Lib.hid L
      clear L h hn
      go_enter Try.func22, Try.ntmps22
      go_wp2_with fail
      refine HL.out.mono ?_
      rintro v w1 ⟨rfl, b1⟩
      have B1 := Lib.hid b1
      obtain ⟨c0, c1, c2, c3⟩ := cells4 (HM.out.below b1).b
      rw [List.length_nil] at c2
      clear b1
      go_wp2
      go_ret
      exact ⟨rfl, B1.out⟩
  · obtain ⟨A, c, rfl, -⟩ := h.ra.form
    obtain ⟨n, hn⟩ : ∃ n, (x :: r).length + e.length = n := ⟨_, rfl⟩
    obtain ⟨k, hk⟩ : ∃ k, (x :: r).length = k := ⟨_, rfl⟩
    have q1 : ((n : Int) == 0) = false := by rw [beq_eq_false_iff_ne]; simp at hn; omega
    have q2 : (0 : Int) < (k : Int) := by simp at hk; omega
    have q3 : 0 < k := by omega
    rw [hn] at L
    rw [hk] at HM
    have HL := Lib.hid L
    clear L h hn hk
    go_enter Try.func22, Try.ntmps22
    go_wp2_with fail
    refine HL.out.mono ?_
    rintro v w1 ⟨rfl, b1⟩
    have B1 := Lib.hid b1
    obtain ⟨c0, c1, c2, c3⟩ := cells4 (HM.out.below b1).b
    clear b1
    go_wp2
    go_ret
    exact ⟨rfl, B1.out⟩
end
end Go.Proofs.Ytpliidkfllacpaa.PortW
