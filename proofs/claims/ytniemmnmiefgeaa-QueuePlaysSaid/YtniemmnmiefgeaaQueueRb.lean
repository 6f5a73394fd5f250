/- The document's own list: its order, and putting a thing in its place. -/
import Derived.Test.YtniemmnmiefgeaaQueueRa
namespace Go.Proofs.Ytniemmnmiefgeaa.QueueW
open Go.RowKit
/-- x stands ahead of y. -/
def rlt (x y : Ri) : Prop := x.t < y.t ∨ (x.t = y.t ∧ (x.r < y.r ∨ (x.r = y.r ∧ x.d < y.d)))
instance (x y : Ri) : Decidable (rlt x y) := by unfold rlt; infer_instance
def insR (x : Ri) : List Ri → List Ri
  | [] => [x]
  | y :: S => if rlt x y then x :: y :: S else y :: insR x S
abbrev Ri.v (x : Ri) : Value := .agg #[.int .i64 x.t, .int .i64 x.r, .int .i64 x.d, .int .i64 x.z]
theorem insR_at (x : Ri) : ∀ (L : List Ri) (lo : Nat), lo ≤ L.length → (∀ i y, L[i]? = some y → i < lo → ¬ rlt x y) → (∀ i y, L[i]? = some y → lo ≤ i → rlt x y) → insR x L = L.take lo ++ x :: L.drop lo
  | [], lo, _, _, _ => by simp [insR]
  | y :: L, 0, _, _, h2 => by
    unfold insR
    rw [if_pos (h2 0 y rfl (Nat.le_refl _))]
    rfl
  | y :: L, lo + 1, hl, h1, h2 => by
    unfold insR
    rw [if_neg (h1 0 y rfl (by omega)), insR_at x L lo (by simpa using hl) (fun i z hz hi => h1 (i + 1) z hz (by omega)) (fun i z hz hi => h2 (i + 1) z hz (by omega))]
    rfl
/-- What the search keeps. -/
structure Bs (x : Ri) (L : List Ri) (lo hi : Nat) : Prop where
  le : lo ≤ hi
  top : hi ≤ L.length
  low : ∀ i y, L[i]? = some y → i < lo → ¬ rlt x y
  high : ∀ i y, L[i]? = some y → hi ≤ i → rlt x y
theorem Bs.start (x : Ri) (L : List Ri) : Bs x L 0 L.length := ⟨Nat.zero_le _, Nat.le_refl _, fun i y _ h => by omega, fun i y h g => by have := (List.getElem?_eq_some_iff.1 h).1; omega⟩
theorem Bs.up {x y : Ri} {L : List Ri} {lo hi m : Nat} (h : Bs x L lo hi) (hs : L.Pairwise (fun a b => ¬ rlt b a)) (hm : L[m]? = some y) (h1 : lo ≤ m) (h2 : m < hi) (hb : ¬ rlt x y) : Bs x L (m + 1) hi := by
  refine ⟨by omega, h.top, fun i z hz hi g => ?_, h.high⟩
  obtain ⟨hml, e⟩ := List.getElem?_eq_some_iff.1 hm
  obtain ⟨hil, e2⟩ := List.getElem?_eq_some_iff.1 hz
  rcases Nat.lt_or_ge i m with him | him
  · have := List.pairwise_iff_getElem.1 hs i m hil hml him
    rw [e, e2] at this
    apply hb
    unfold rlt at *
    omega
  · obtain rfl : i = m := by omega
    rw [hm] at hz
    obtain rfl := Option.some.inj hz
    exact hb g
theorem Bs.down {x y : Ri} {L : List Ri} {lo hi m : Nat} (h : Bs x L lo hi) (hs : L.Pairwise (fun a b => ¬ rlt b a)) (hm : L[m]? = some y) (h1 : lo ≤ m) (h2 : m < hi) (hb : rlt x y) : Bs x L lo m := by
  refine ⟨h1, by have := h.top; omega, h.low, fun i z hz hi => ?_⟩
  obtain ⟨hml, e⟩ := List.getElem?_eq_some_iff.1 hm
  obtain ⟨hil, e2⟩ := List.getElem?_eq_some_iff.1 hz
  rcases Nat.lt_or_ge m i with him | him
  · have := List.pairwise_iff_getElem.1 hs m i hml hil him
    rw [e, e2] at this
    unfold rlt at *
    omega
  · obtain rfl : i = m := by omega
    rw [hm] at hz
    obtain rfl := Option.some.inj hz
    exact hb
theorem insR_sorted {x : Ri} : ∀ {L : List Ri}, L.Pairwise (fun a b => ¬ rlt b a) → (insR x L).Pairwise (fun a b => ¬ rlt b a)
  | [], _ => by simp [insR]
  | y :: L, h => by
    have h' := List.pairwise_cons.1 h
    unfold insR
    split
    · rename_i g
      refine List.pairwise_cons.2 ⟨fun z hz => ?_, h⟩
      rcases List.mem_cons.1 hz with rfl | hz
      · unfold rlt at *; omega
      · have := h'.1 z hz
        unfold rlt at *; omega
    · rename_i g
      refine List.pairwise_cons.2 ⟨fun z hz => ?_, insR_sorted h'.2⟩
      have mem : ∀ {L : List Ri} {z : Ri}, z ∈ insR x L → z = x ∨ z ∈ L := by
        intro L
        induction L with
        | nil => intro z hz; exact Or.inl (by simpa [insR] using hz)
        | cons a L ih =>
          intro z hz
          unfold insR at hz
          split at hz
          · exact List.mem_cons.1 hz
          · rcases List.mem_cons.1 hz with rfl | hz
            · exact Or.inr List.mem_cons_self
            · exact (ih hz).imp id (List.mem_cons_of_mem _)
      rcases mem hz with rfl | hz
      · exact g
      · exact h'.1 z hz
set_option maxHeartbeats 1000000 in
theorem behind_iff (x y : Ri) (w : World) : Calls Try.prog 27 #[x.v, y.v] w fun e w' => (∃ b, e = .returned (.bool b) ∧ (b = true ↔ ¬ rlt x y)) ∧ Below w.heap.size w w' := by
  obtain ⟨t, r, d, z⟩ := x
  obtain ⟨u, s, f, g⟩ := y
  dsimp only [Ri.v]
  unfold rlt
  dsimp only
  by_cases h1 : t = u
  · subst h1
    by_cases h2 : r = s
    · subst h2
      go_enter Try.func27, Try.ntmps27
      go_wp2
      go_ret
      exact ⟨⟨decide (f ≤ d), rfl, by rw [decide_eq_true_iff]; simp only [true_and]; omega⟩, alC (alC (Below.refl _ _) _) _⟩
    · go_enter Try.func27, Try.ntmps27
      go_wp2
      go_ret
      exact ⟨⟨decide (s < r), rfl, by rw [decide_eq_true_iff]; simp only [true_and]; omega⟩, alC (alC (Below.refl _ _) _) _⟩
  · go_enter Try.func27, Try.ntmps27
    go_wp2
    go_ret
    exact ⟨⟨decide (u < t), rfl, by rw [decide_eq_true_iff]; omega⟩, alC (alC (Below.refl _ _) _) _⟩
theorem behind_any (x y : Ri) (w : World) : Calls Try.prog 27 #[x.v, y.v] w fun e w' => e = .returned (.bool (decide (¬ rlt x y))) ∧ Below w.heap.size w w' :=
  (behind_iff x y w).mono fun _ _ ⟨⟨b, h1, h2⟩, h3⟩ => ⟨by rw [h1]; congr 2; rw [Bool.eq_iff_iff, decide_eq_true_iff]; exact h2, h3⟩
end Go.Proofs.Ytniemmnmiefgeaa.QueueW
