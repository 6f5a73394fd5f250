/- What a script's loop keeps: the hold, its clock, the document's own clock and list. -/
import Derived.Test.YtmkgnkbcdkcboaaPermOps
namespace Go.Proofs.Ytmkgnkbcdkcboaa.PermW
open Go.RowKit Shell
open QueueW (It lt ins)
open ClockW (CK CI RV tell tell_iff sh wh)
abbrev rk (m b r : Int) : Obj := .cells #[.int .i64 m, .int .i64 b, .int .i64 r] 33 (0, 0)
abbrev opx (x0 x1 x2 k f y c l : Int) : Obj := .cells #[.int .i64 x0, .int .i64 x1, .int .i64 x2, .int .i64 k, .int .i64 f, .int .i64 y, .int .u32 c, .int .i64 l] 39 (0, 0)
theorem cells8 {w : World} {j : Nat} {v0 v1 v2 v3 v4 v5 v6 v7 : Value} {t : TypeId} (h : w.heap[j]? = some (.cells #[v0, v1, v2, v3, v4, v5, v6, v7] t (0, 0))) : w.cell? ⟨j, 0, none⟩ = some v0 ∧ w.cell? ⟨j, 1, none⟩ = some v1 ∧ w.cell? ⟨j, 2, none⟩ = some v2 ∧ w.cell? ⟨j, 3, none⟩ = some v3 ∧ w.cell? ⟨j, 4, none⟩ = some v4 ∧ w.cell? ⟨j, 5, none⟩ = some v5 ∧ w.cell? ⟨j, 6, none⟩ = some v6 ∧ w.cell? ⟨j, 7, none⟩ = some v7 :=
  ⟨cell_of_row w j 0 _ _ _ h, cell_of_row w j 1 _ _ _ h, cell_of_row w j 2 _ _ _ h, cell_of_row w j 3 _ _ _ h, cell_of_row w j 4 _ _ _ h, cell_of_row w j 5 _ _ _ h, cell_of_row w j 6 _ _ _ h, cell_of_row w j 7 _ _ _ h⟩
theorem guardC : Try.prog.eqGuardType Try.prog.depth 37 = false := by kernel_rfl
section
variable {w0 : World} {L : List (Nat × Obj)} {h q j : Nat} {d m b r : Int} {S : List It} {N : Nat} {A : Option Addr} {T : List It} {w : World}
/-- One of the boxes turns. -/
theorem PW.box {k : Nat} {o o' : Obj} {w1 : World} (P : PW w0 ((k, o) :: L) h q j d m b r S N A T w) (kp : Kept k w w1) (hn : w1.heap[k]? = some o') (hk0 : w0.heap.size ≤ k) (hL : ∀ x ∈ L, x.1 ≠ k) (hh : h ≠ k) (hA : ∀ a, A = some a → a.block ≠ k) : PW w0 ((k, o') :: L) h q j d m b r S N A T w1 := by
  obtain ⟨n, v, hk, hn2, ho⟩ := P.hold
  have g : QueueW.Chg (fun i => i = k) w w1 := ⟨kp.os, kp.tape, kp.output, kp.size, fun i hi hx => kp.block i hx hi⟩
  have lq := P.lq (k, o) List.mem_cons_self
  refine ⟨P.st.turn kp hn hk0 hL, ⟨n, v, hk.frame g hh (fun e => lq.1 e.symm) (fun i hi e => (ho i hi).2.2.1 (k, o) List.mem_cons_self e.symm), hn2, fun i hi => ⟨(ho i hi).1, (ho i hi).2.1, fun x hx => ?_, (ho i hi).2.2.2⟩⟩,
    P.ck.kept kp (fun e => lq.2 e.symm), P.ci, P.q0, P.j0, P.jq, P.hj, fun x hx => ?_, P.li.block kp.size (fun a ha => kp.block a.block (hA a ha) (P.lb a ha).2.2), fun a ha => ⟨(P.lb a ha).1, (P.lb a ha).2.1, Nat.lt_of_lt_of_le (P.lb a ha).2.2 kp.size⟩, P.std, P.few⟩
  · rcases List.mem_cons.1 hx with rfl | hx
    · exact (ho i hi).2.2.1 (k, o) List.mem_cons_self
    · exact (ho i hi).2.2.1 x (List.mem_cons_of_mem _ hx)
  · rcases List.mem_cons.1 hx with rfl | hx
    · exact lq
    · exact P.lq x (List.mem_cons_of_mem _ hx)
/-- The document's own list, from its first on or from its second. -/
theorem PW.rest (P : PW w0 L h q j d m b r S N A T w) {a a1 : Addr} (hA : A = some a) (hb : a1.block = a.block) {T1 : List It} (li : HL w (some a1) T1) : PW w0 L h q j d m b r S N (some a1) T1 w := by
  obtain ⟨n, v, hk, hn, ho⟩ := P.hold
  exact ⟨P.st, ⟨n, v, hk, hn, fun i hi => ⟨(ho i hi).1, (ho i hi).2.1, (ho i hi).2.2.1, fun x e => by cases e; rw [hb]; exact (ho i hi).2.2.2 a hA⟩⟩, P.ck, P.ci, P.q0, P.j0, P.jq, P.hj, P.lq, li, fun x e => by cases e; rw [hb]; exact P.lb a hA, P.std, P.few⟩
end
/-- What the loop keeps. -/
structure PL (w0 : World) (g q j k : Nat) (d m b r : Int) (S : List It) (N : Nat) (A : Option Addr) (cp : Nat) (w : World) : Prop where
  p : PW w0 [(k, rk m b r)] g q j d m b r S N A S w
  a : ∀ x, A = some x → k < x.block
  gk : g < k
  k0 : w0.heap.size ≤ k
  c : S.length ≤ cp
end Go.Proofs.Ytmkgnkbcdkcboaa.PermW
