/- When a frame is permanent, as plain numbers; a frame put in its place. -/
import Derived.Test.YtmkgnkbcdkcboaaPqP
import Derived.Test.YtmkgnkbcdkcboaaClockAll
namespace Go.Proofs.Ytmkgnkbcdkcboaa.PermW
open QueueW ClockW
/-- What Due tells: a time and an error. (ok: whether the clock tells t.) -/
def du (m b r t cl d : Int) (ok : Bool) : Int × Int :=
  if (0 ≤ d ∧ d ≤ 1048576) ∧ 0 ≤ cl ∧ cl ≤ d ∧ ok = true then (if sh m b r 1125899906842624 < sh m b r t + d - cl then (0, 5) else (wh m b r (sh m b r t + d - cl), 0)) else (0, 1)
/-- A held frame as a row: the frame's five numbers, and when it is permanent. -/
def rw6 (x : It) : List Int := [x.k, x.f, x.y, x.c, x.l, x.time]
/-- Does a held frame stand behind one that is due at u, of f? -/
def beh (u f : Int) (x : It) : Bool := decide (u < x.time) || (decide (x.time = u) && decide (f < x.f))
/-- One step of the document's own way: what is put already, and the list. -/
def stp (z : It) (a : Bool × List It) (x : It) : Bool × List It := if !a.1 && beh z.time z.f x then (true, a.2 ++ [z, x]) else (a.1, a.2 ++ [x])
def fin (z : It) (a : Bool × List It) : List It := if a.1 then a.2 else a.2 ++ [z]
theorem fold_put (z : It) : ∀ (S l : List It), S.foldl (stp z) (true, l) = (true, l ++ S)
  | [], l => by simp
  | x :: S, l => by
    rw [List.foldl_cons, show stp z (true, l) x = (true, l ++ [x]) from rfl, fold_put z S]
    simp
/-- What a hold's frames keep: they stand by whom they come from, and by nothing else but when they came. -/
def Std (S : List It) : Prop := ∀ x ∈ S, x.rank = x.f ∧ x.node = 0
theorem lt_beh {z x : It} (hz : z.rank = z.f ∧ z.node = 0) (hx : x.rank = x.f ∧ x.node = 0) (hp : x.place < z.place) : lt z x ↔ beh z.time z.f x = true := by
  unfold lt beh
  rw [hz.1, hz.2, hx.1, hx.2]
  simp only [Bool.or_eq_true, Bool.and_eq_true, decide_eq_true_eq]
  omega
theorem fold_ins (z : It) (hz : z.rank = z.f ∧ z.node = 0) : ∀ (S l : List It), Std S → (∀ x ∈ S, x.place < z.place) → fin z (S.foldl (stp z) (false, l)) = l ++ ins z S
  | [], l, _, _ => by simp [fin, ins]
  | x :: S, l, hs, hp => by
    have hl := lt_beh hz (hs x List.mem_cons_self) (hp x List.mem_cons_self)
    rw [List.foldl_cons, ins]
    by_cases g : lt z x
    · rw [if_pos g, show stp z (false, l) x = (true, l ++ [z, x]) by unfold stp; rw [hl.1 g]; rfl, fold_put]
      simp [fin]
    · have hb : beh z.time z.f x = false := by
        cases e : beh z.time z.f x with
        | false => rfl
        | true => exact absurd (hl.2 e) g
      rw [if_neg g, show stp z (false, l) x = (false, l ++ [x]) by unfold stp; rw [hb]; rfl, fold_ins z hz S _ (fun y hy => hs y (List.mem_cons_of_mem _ hy)) (fun y hy => hp y (List.mem_cons_of_mem _ hy))]
      simp
theorem fold_len (z : It) : ∀ (S : List It) (a : Bool × List It), (S.foldl (stp z) a).2.length ≤ a.2.length + S.length + 1 ∧ (a.1 = true → (S.foldl (stp z) a).2.length ≤ a.2.length + S.length)
  | [], a => by simp
  | x :: S, a => by
    rw [List.foldl_cons]
    have h := fold_len z S (stp z a x)
    cases e : a.1 with
    | true =>
      have e1 : stp z a x = (true, a.2 ++ [x]) := by unfold stp; rw [e]; rfl
      rw [e1] at h ⊢
      simp only [List.length_append, List.length_cons, List.length_nil] at h ⊢
      have := h.2 trivial
      omega
    | false =>
      cases g : beh z.time z.f x with
      | true =>
        have e1 : stp z a x = (true, a.2 ++ [z, x]) := by unfold stp; rw [e, g]; rfl
        rw [e1] at h ⊢
        simp only [List.length_append, List.length_cons, List.length_nil] at h ⊢
        have := h.2 trivial
        exact ⟨by omega, fun h => by cases h⟩
      | false =>
        have e1 : stp z a x = (false, a.2 ++ [x]) := by unfold stp; rw [e, g]; rfl
        rw [e1] at h ⊢
        simp only [List.length_append, List.length_cons, List.length_nil] at h ⊢
        have := h.1
        exact ⟨by omega, fun h => by cases h⟩
theorem ins_std {z : It} {S : List It} (hz : z.rank = z.f ∧ z.node = 0) (hs : Std S) : Std (ins z S) := fun y hy => by
  rcases List.mem_cons.1 ((ins_perm z S).mem_iff.1 hy) with rfl | hy
  · exact hz
  · exact hs y hy
end Go.Proofs.Ytmkgnkbcdkcboaa.PermW
