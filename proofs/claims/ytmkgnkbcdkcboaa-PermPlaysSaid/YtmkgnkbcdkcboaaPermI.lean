/- A hold with its clock: how it begins; the clock's Rate and Set beside the document's own. -/
import Derived.Test.YtmkgnkbcdkcboaaPermH
namespace Go.Proofs.Ytmkgnkbcdkcboaa.PermW
open Go.RowKit Shell
open QueueW hiding al cell_keep
open ClockW (CK CI RV tell tell_iff sh wh okR okB okR_iff okB_iff rate_ok rate_bad set_ok set_bad refRate_ok refRate_bad refSet_ok refSet_bad)
open FrameW (CV rightC)
theorem PW.mk0 {w0 : World} {L : List (Nat × Obj)} {h q j : Nat} {d m b r : Int} {w : World} (st : Stay w0 L w) (hk : HK w h q d 0 (.slice none 0 0) []) (c : CK w j m b r) (ci : CI m b r) (q0 : w0.heap.size ≤ q) (j0 : w0.heap.size ≤ j) (jq : j ≠ q) (hj : h ≠ j)
    (lq : ∀ x ∈ L, x.1 ≠ q ∧ x.1 ≠ j) : PW w0 L h q j d m b r [] 0 none [] w :=
  ⟨st, ⟨0, _, hk, ⟨Int.le_refl _, by simp⟩, fun i hi => (by cases hi)⟩, c, ci, q0, j0, jq, hj, lq, Or.inl rfl, fun a ha => (by cases ha), fun x hx => (by cases hx), (by decide)⟩
section
variable {w0 : World} {L : List (Nat × Obj)} {h q j : Nat} {d m b r : Int} {S : List It} {N : Nat} {A : Option Addr} {T : List It} {w : World}
theorem PW.takeA (P : PW w0 L h q j d m b r S N A T w) (t k f y c l : Int) (hc : 0 ≤ c) (hN : N < 4611686018427387904) (x0 x1 : Int) (hx : tkA m b r d S.length t k f y c l = (x0, x1)) :
    Calls Try.prog 11 #[.pointer (some ⟨h, 0, none⟩), .pointer (some ⟨j, 0, none⟩), .int .i64 t, CV k f y c l] w fun e w' => e = .returned (.tuple #[.int .i64 x0, .int .i64 x1]) ∧
      ∃ p : Int, (∀ x ∈ S, x.place < p) ∧ PW w0 L h q j d m b r (if x1 = 0 then ins ⟨x0, f, 0, p, k, f, y, c, l⟩ S else S) (N + 1) A T w' := by
  refine (P.take t k f y c l hc hN).mono ?_
  rintro e w' ⟨rfl, p, hp, P'⟩
  unfold tkS at P'
  rw [hx] at P' ⊢
  exact ⟨rfl, p, hp, P'⟩
theorem PW.takeY (P : PW w0 L h q j d m b r S N A T w) (t k f y c l : Int) (hc : 0 ≤ c) (hN : N < 4611686018427387904) (x0 : Int) (hx : tkA m b r d S.length t k f y c l = (x0, 0)) :
    Calls Try.prog 11 #[.pointer (some ⟨h, 0, none⟩), .pointer (some ⟨j, 0, none⟩), .int .i64 t, CV k f y c l] w fun e w' => e = .returned (.tuple #[.int .i64 x0, .int .i64 0]) ∧
      ∃ p : Int, (∀ x ∈ S, x.place < p) ∧ PW w0 L h q j d m b r (ins ⟨x0, f, 0, p, k, f, y, c, l⟩ S) (N + 1) A T w' := by
  refine (P.takeA t k f y c l hc hN x0 0 hx).mono ?_
  rintro e w' ⟨rfl, p, hp, P'⟩
  rw [if_pos rfl] at P'
  exact ⟨rfl, p, hp, P'⟩
theorem PW.takeN (P : PW w0 L h q j d m b r S N A T w) (t k f y c l : Int) (hc : 0 ≤ c) (hN : N < 4611686018427387904) (x0 x1 : Int) (hx : tkA m b r d S.length t k f y c l = (x0, x1)) (h1 : ¬ x1 = 0) :
    Calls Try.prog 11 #[.pointer (some ⟨h, 0, none⟩), .pointer (some ⟨j, 0, none⟩), .int .i64 t, CV k f y c l] w fun e w' => e = .returned (.tuple #[.int .i64 x0, .int .i64 x1]) ∧ PW w0 L h q j d m b r S (N + 1) A T w' := by
  refine (P.takeA t k f y c l hc hN x0 x1 hx).mono ?_
  rintro e w' ⟨rfl, p, hp, P'⟩
  rw [if_neg h1] at P'
  exact ⟨rfl, P'⟩
theorem PW.dueA (P : PW w0 L h q j d m b r S N A T w) (t cl dd x0 x1 : Int) (hx : du m b r t cl dd (tell m t) = (x0, x1)) :
    Calls Try.prog 20 #[.pointer (some ⟨j, 0, none⟩), .int .i64 t, .int .i64 cl, .int .i64 dd] w fun e w' => e = .returned (.tuple #[.int .i64 x0, .int .i64 x1]) ∧ PW w0 L h q j d m b r S N A T w' := by
  refine (P.due t cl dd).mono ?_
  rintro e w' ⟨rfl, P'⟩
  rw [hx]
  exact ⟨rfl, P'⟩
theorem PW.rate (P : PW w0 L h q j d m b r S N A T w) (t r' : Int) :
    Calls Try.prog 14 #[.pointer (some ⟨j, 0, none⟩), .int .i64 t, .int .i64 r'] w fun e w' => (∃ z : Int, e = .returned (.int .i64 z)) ∧ PW w0 L h q j d (rt m b r t r').1 (rt m b r t r').2.1 (rt m b r t r').2.2 S N A T w' := by
  unfold rt
  cases ho : tell m t && okR r' with
  | false =>
    refine (rate_bad j m b r t r' w P.ck ho).mono ?_
    rintro e w' ⟨rfl, rfl⟩
    exact ⟨⟨_, rfl⟩, P⟩
  | true =>
    rw [Bool.and_eq_true] at ho
    have HT := tell_iff.1 ho.1
    have HR := okR_iff.1 ho.2
    refine (rate_ok j m b r t r' w P.ck P.ci ho.1 ho.2).mono ?_
    rintro e w' ⟨rfl, c, kp⟩
    exact ⟨⟨_, rfl⟩, P.tick kp c (P.ci.next HT.2 HT.1.2 HR.1 HR.2)⟩
theorem PW.set (P : PW w0 L h q j d m b r S N A T w) (t b' : Int) :
    Calls Try.prog 16 #[.pointer (some ⟨j, 0, none⟩), .int .i64 t, .int .i64 b'] w fun e w' => (∃ z : Int, e = .returned (.int .i64 z)) ∧ PW w0 L h q j d (se m b r t b').1 (se m b r t b').2.1 (se m b r t b').2.2 S N A T w' := by
  unfold se
  cases ho : tell m t && okB b' with
  | false =>
    refine (set_bad j m b r t b' w P.ck ho).mono ?_
    rintro e w' ⟨rfl, rfl⟩
    exact ⟨⟨_, rfl⟩, P⟩
  | true =>
    rw [Bool.and_eq_true] at ho
    have HT := tell_iff.1 ho.1
    have HB := okB_iff.1 ho.2
    refine (set_ok j m b r t b' w P.ck ho.1 ho.2).mono ?_
    rintro e w' ⟨rfl, c, kp⟩
    exact ⟨⟨_, rfl⟩, P.tick kp c (show CI t b' r from ⟨HT.1.1, HT.1.2, HB.1, by omega, P.ci.r0, P.ci.r1⟩)⟩
end
theorem refRate_any (m b r t r' : Int) (w : World) (hi : CI m b r) :
    Calls Try.prog 15 #[RV m b r, .int .i64 t, .int .i64 r'] w fun e w' => (∃ z : Int, e = .returned (.tuple #[RV (rt m b r t r').1 (rt m b r t r').2.1 (rt m b r t r').2.2, .int .i64 z])) ∧ Below w.heap.size w w' := by
  unfold rt
  cases ho : tell m t && okR r' with
  | false => exact (refRate_bad m b r t r' w ho).mono fun e w' h => ⟨⟨_, h.1⟩, h.2⟩
  | true =>
    rw [Bool.and_eq_true] at ho
    exact (refRate_ok m b r t r' w hi ho.1 ho.2).mono fun e w' h => ⟨⟨_, h.1⟩, h.2⟩
theorem refSet_any (m b r t b' : Int) (w : World) :
    Calls Try.prog 17 #[RV m b r, .int .i64 t, .int .i64 b'] w fun e w' => (∃ z : Int, e = .returned (.tuple #[RV (se m b r t b').1 (se m b r t b').2.1 (se m b r t b').2.2, .int .i64 z])) ∧ Below w.heap.size w w' := by
  unfold se
  cases ho : tell m t && okB b' with
  | false => exact (refSet_bad m b r t b' w ho).mono fun e w' h => ⟨⟨_, h.1⟩, h.2⟩
  | true =>
    rw [Bool.and_eq_true] at ho
    exact (refSet_ok m b r t b' w ho.1 ho.2).mono fun e w' h => ⟨⟨_, h.1⟩, h.2⟩
end Go.Proofs.Ytmkgnkbcdkcboaa.PermW
