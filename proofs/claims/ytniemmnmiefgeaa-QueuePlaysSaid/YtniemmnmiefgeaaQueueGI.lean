/- A queue's New, Push, Peek, Pop and Len. -/
import Derived.Test.YtniemmnmiefgeaaQueueFI
import Derived.Test.YtniemmnmiefgeaaQueueMost
namespace Go.Proofs.Ytniemmnmiefgeaa.QueueW
open Go.RowKit
/-- A queue that holds S, in order. -/
structure QSI (w : World) (k : Nat) (m n : Int) (v : Value) (S : List It) : Prop where
  row : ∃ L, Row w 64 0 v L ∧ L.Perm S ∧ HO 0 L.length L
  blk : w.heap[k]? = some (qI m n v)
  own : v.ownBlock ≠ some k
  up : S.Pairwise lt
  old : ∀ x ∈ S, x.place < n
  few : S.length ≤ 65536
theorem QSI.frame {w w1 : World} {k : Nat} {m n : Int} {v : Value} {S : List It} (h : QSI w k m n v S) {X : Nat → Prop} (c : Chg X w w1) (h1 : ¬ X k) (h2 : ∀ j, v.ownBlock = some j → ¬ X j) : QSI w1 k m n v S := by
  obtain ⟨L, r, p, o⟩ := h.row
  exact ⟨⟨L, Row.of_block r (fun j hj => c.block j (r.lt hj) (h2 j hj)), p, o⟩, c.heap h.blk h1, h.own, h.up, h.old, h.few⟩
theorem QSI.below {w w1 : World} {k : Nat} {m n : Int} {v : Value} {S : List It} (h : QSI w k m n v S) (b : Below w.heap.size w w1) : QSI w1 k m n v S := h.frame (X := fun _ => False) (Chg.of b) (fun f => f) (fun _ _ f => f)
theorem QSI.lt {w : World} {k : Nat} {m n : Int} {v : Value} {S : List It} (h : QSI w k m n v S) : k < w.heap.size ∧ ∀ j, v.ownBlock = some j → j < w.heap.size := by
  obtain ⟨L, r, _⟩ := h.row
  exact ⟨lt_heap h.blk, fun j hj => r.lt hj⟩
theorem RowI.form {w : World} {T : TypeId} {v : Value} {L : List It} (h : Row w T 0 v L) : ∃ A c, v = .slice A L.length c := by
  rcases h.nil_form with ⟨rfl, rfl⟩ | ⟨g, c, rfl, _⟩
  · exact ⟨none, 0, rfl⟩
  · exact ⟨_, c, rfl⟩
theorem newI_any (m : Int) (w : World) : Calls Try.prog 13 #[.int .i64 m] w fun e w' => e = .returned (.pointer (some ⟨w.heap.size, 0, none⟩)) ∧ QSI w' w.heap.size (most m) 0 (.slice none 0 0) [] ∧ Below w.heap.size w w' := by
  have fin : ∀ o, o = qI (most m) 0 (.slice none 0 0) → QSI (w.alloc o) w.heap.size (most m) 0 (.slice none 0 0) [] ∧ Below w.heap.size w (w.alloc o) := by
    rintro o rfl
    exact ⟨⟨⟨[], World.ownsRow_nil _ _ _ _, List.Perm.refl _, fun c hc => (by simp at hc)⟩, heap_alloc_new _ _, fun h => (by cases h), List.Pairwise.nil, fun x hx => (by cases hx), by decide⟩, (Below.refl _ _).alloc (Nat.le_refl _) _⟩
  have F := Lib.hid fin
  clear fin
  unfold most at *
  by_cases h0 : m < 0
  · rw [if_pos h0] at F ⊢
    have h1 : m ≤ 0 := by omega
    go_enter Try.func13, Try.ntmps13
    go_wp2
    go_ret
    exact ⟨rfl, F.out _ rfl⟩
  · rw [if_neg h0] at F ⊢
    by_cases h1 : 65536 < m
    · rw [if_pos h1] at F ⊢
      go_enter Try.func13, Try.ntmps13
      go_wp2
      go_ret
      exact ⟨rfl, F.out _ rfl⟩
    · rw [if_neg h1] at F ⊢
      go_enter Try.func13, Try.ntmps13
      go_wp2
      go_ret
      exact ⟨rfl, F.out _ rfl⟩
theorem lenqI_any (k : Nat) (m n : Int) (v : Value) (S : List It) (w : World) (h : QSI w k m n v S) : Calls Try.prog 16 #[.pointer (some ⟨k, 0, none⟩)] w fun e w' => e = .returned (.int .i64 (S.length : Nat)) ∧ w = w' := by
  obtain ⟨L, r, p, _⟩ := h.row
  obtain ⟨A, c, rfl⟩ := RowI.form r
  have c2 : w.cell? ⟨k, 2, none⟩ = some (.slice A L.length c) := cell_of_row w k 2 _ _ _ h.blk
  rw [← p.length_eq]
  clear h r p
  go_enter Try.func16, Try.ntmps16
  go_wp2
  go_ret
  exact ⟨rfl, rfl⟩
theorem peekI_none (k : Nat) (m n : Int) (v : Value) (w : World) (h : QSI w k m n v []) : Calls Try.prog 19 #[.pointer (some ⟨k, 0, none⟩)] w fun e w' => e = .returned (.tuple #[(zI).thing, .int .i64 0, .bool false]) ∧ Below w.heap.size w w' := by
  have HL := Lib.hid (lenqI_any k m n v [] w h)
  clear h
  dsimp only [zI]
  go_enter Try.func19, Try.ntmps19
  go_wp2_with (go_at_call 16; refine HL.out.mono ?_; rintro e w' ⟨rfl, rfl⟩; rw [show (([] : List It).length : Int) = 0 from rfl])
  go_ret3
  exact ⟨rfl, (Below.refl _ _).alloc (Nat.le_refl _) _⟩
theorem QSI.first {w : World} {k : Nat} {m n : Int} {v : Value} {x : It} {S : List It} (h : QSI w k m n v (x :: S)) : ∃ g c L, v = .slice (some ⟨g, 0, none⟩) L.length c ∧ Row w 64 0 (.slice (some ⟨g, 0, none⟩) L.length c) L ∧ L.Perm (x :: S) ∧ HO 0 L.length L ∧ 0 < L.length ∧ nth L 0 = x ∧ L.length ≤ 65536 ∧ ¬ k = g := by
  obtain ⟨L, r, p, o⟩ := h.row
  have l0 : 0 < L.length := by rw [p.length_eq]; simp
  rcases r.nil_form with ⟨_, rfl⟩ | ⟨g, c, rfl, _⟩
  · exact absurd l0 (Nat.lt_irrefl _)
  · exact ⟨g, c, L, rfl, r, p, o, l0, first_eq o p h.up, by rw [p.length_eq]; exact h.few, fun e => h.own (e ▸ rfl)⟩
set_option maxHeartbeats 1000000 in
theorem peekI_some (k : Nat) (m n : Int) (v : Value) (x : It) (S : List It) (w : World) (h : QSI w k m n v (x :: S)) : Calls Try.prog 19 #[.pointer (some ⟨k, 0, none⟩)] w fun e w' => e = .returned (.tuple #[x.thing, .int .i64 x.time, .bool true]) ∧ Below w.heap.size w w' := by
  have HL := Lib.hid (lenqI_any k m n v (x :: S) w h)
  obtain ⟨g, c, L, rfl, r, p, o, l0, e0, few, _⟩ := h.first
  have c2 : w.cell? ⟨k, 2, none⟩ = some (.slice (some ⟨g, 0, none⟩) L.length c) := cell_of_row w k 2 _ _ _ h.blk
  obtain ⟨a0, a1, a2, a3, a4⟩ := r.cells l0
  rw [e0] at a0 a1 a2 a3 a4
  simp only [Nat.zero_mul, Nat.zero_add] at a0 a1 a2 a3 a4
  have l1 : (0 : Int) < (L.length : Int) := by omega
  obtain ⟨y0, y1, y2, y3, y4, y5⟩ := x
  have sx : ∀ (W : World) (a : Addr) (m : Mode), Sem.run Try.prog (store a y4 m) W = stored Try.prog W a y4 m := fun W a m => run_store _ W a _ m y5
  dsimp only at a0 a1 a2 a3 a4 ⊢
  have hS : (0 : Int) < ((S.length : Int) + 1) := by omega
  generalize L.length = l at *
  clear h r p o e0
  generalize hz : (({ time := y0, rank := y1, node := y2, place := y3, thing := y4, one := y5 } :: S : List It).length : Int) = z at *
  have z0 : ¬ z = 0 := by rw [← hz]; simp only [List.length_cons]; omega
  clear hz y5 hS l0 few
  go_enter Try.func19, Try.ntmps19
  go_wp2_with (go_at_call 16; refine HL.out.mono ?_; rintro e w' ⟨rfl, rfl⟩)
  go_region
  go_wp2
  go_ret3
  exact ⟨rfl, ((Below.refl _ _).alloc (Nat.le_refl _) _).drew⟩
theorem popI_none (k : Nat) (m n : Int) (v : Value) (w : World) (h : QSI w k m n v []) : Calls Try.prog 15 #[.pointer (some ⟨k, 0, none⟩)] w fun e w' => e = .returned (.tuple #[(zI).thing, .int .i64 0, .bool false]) ∧ Below w.heap.size w w' := by
  have HP := Lib.hid (peekI_none k m n v w h)
  clear h
  go_enter Try.func15, Try.ntmps15
  go_wp2_with (go_at_call 19; refine HP.out.mono ?_; rintro e w1 ⟨rfl, b1⟩)
  go_ret3
  exact ⟨rfl, b1⟩
set_option maxHeartbeats 1000000 in
theorem popI_some (k : Nat) (m n : Int) (v : Value) (x : It) (S : List It) (w : World) (h : QSI w k m n v (x :: S)) : Calls Try.prog 15 #[.pointer (some ⟨k, 0, none⟩)] w fun e w' => e = .returned (.tuple #[x.thing, .int .i64 x.time, .bool true]) ∧
    ∃ v', QSI w' k m n v' S ∧ v'.ownBlock = v.ownBlock ∧ Chg (fun j => j = k ∨ v.ownBlock = some j) w w' := by
  have HP := Lib.hid (peekI_some k m n v x S w h)
  have HQ := Lib.hid h
  generalize hx : x.thing = xt at *
  generalize hy : x.time = xi at *
  clear h
  go_enter Try.func15, Try.ntmps15
  go_wp2_with (go_at_call 19; refine HP.out.mono ?_; rintro e w1 ⟨rfl, b1⟩)
  have h1 := HQ.out.below b1
  obtain ⟨g, c, L, rfl, r, p, o, l0, e0, few, hkg⟩ := h1.first
  have q1 := h1.blk
  refine (hPopI_any k g c m n L w1 q1 r hkg few l0 o).mono ?_
  rintro e w2 ⟨⟨y, rfl⟩, M, q2, r2, p2, o2, g2⟩
  go_wp2
  go_ret3
  rw [e0] at p2
  have pS : M.Perm S := List.Perm.cons_inv (p2.trans p)
  refine ⟨rfl, _, ⟨⟨M, r2, pS, o2⟩, q2, fun e => hkg (by injection e with e; exact e.symm), (List.pairwise_cons.1 HQ.out.up).2, fun z hz => HQ.out.old z (List.mem_cons_of_mem _ hz), by have := HQ.out.few; rw [List.length_cons] at this; omega⟩, rfl, ?_⟩
  refine (Chg.of b1).trans g2 (fun j _ e => ?_)
  rcases e with e | e
  · exact Or.inl e
  · exact Or.inr (by rw [e]; rfl)
theorem pushI_full (k : Nat) (m n t r d : Int) (z v : Value) (S : List It) (w : World) (h : QSI w k m n v S) (hm : m ≤ (S.length : Int)) : Calls Try.prog 14 #[.pointer (some ⟨k, 0, none⟩), .int .i64 t, .int .i64 r, .int .i64 d, z] w fun e w' => e = .returned (.int .i64 6) ∧ Below w.heap.size w w' := by
  obtain ⟨L, rw, p, _⟩ := h.row
  obtain ⟨A, c, rfl⟩ := RowI.form rw
  have c2 : w.cell? ⟨k, 2, none⟩ = some (.slice A L.length c) := cell_of_row w k 2 _ _ _ h.blk
  have c0 : w.cell? ⟨k, 0, none⟩ = some (.int .i64 m) := cell_of_row w k 0 _ _ _ h.blk
  rw [← p.length_eq] at hm
  clear h rw p
  go_enter Try.func14, Try.ntmps14
  go_wp2_with fail
  go_region
  all_goals go_wp2
  go_ret
  exact ⟨rfl, (Below.refl _ _).drew⟩
set_option maxHeartbeats 2000000 in
theorem pushI_ok (k : Nat) (m n t r d : Int) (u : Int) (v : Value) (S : List It) (w : World) (h : QSI w k m n v S) (hm : (S.length : Int) < m) (hm2 : m ≤ 65536) (hn : 0 ≤ n ∧ n < 4611686018427387904) :
    Calls Try.prog 14 #[.pointer (some ⟨k, 0, none⟩), .int .i64 t, .int .i64 r, .int .i64 d, .int .i64 u] w fun e w' => e = .returned (.int .i64 0) ∧
    ∃ v', QSI w' k m (n + 1) v' (ins ⟨t, r, d, n, .int .i64 u, rfl⟩ S) ∧ (∀ j, v'.ownBlock = some j → v.ownBlock = some j ∨ w.heap.size ≤ j) ∧ Chg (fun j => j = k ∨ v.ownBlock = some j) w w' := by
  obtain ⟨L, rw, p, o⟩ := h.row
  have q0 := h.blk
  have own := h.own
  obtain ⟨A, c, hv⟩ := RowI.form rw
  have c2 : w.cell? ⟨k, 2, none⟩ = some v := cell_of_row w k 2 _ _ _ q0
  have c0 : w.cell? ⟨k, 0, none⟩ = some (.int .i64 m) := cell_of_row w k 0 _ _ _ q0
  have c1 : w.cell? ⟨k, 1, none⟩ = some (.int .i64 n) := cell_of_row w k 1 _ _ _ q0
  have hl : (L.length : Int) < m := by rw [p.length_eq]; exact hm
  have P := Lib.hid (hPushI_any k m n v L ⟨t, r, d, n, .int .i64 u, rfl⟩ w.drew.drew q0 (Row.drew (Row.drew rw)) own (by omega) o)
  have HS := Lib.hid h
  have HP := Lib.hid p
  have HV := Lib.hid hv
  rw [hv] at c2
  have C2 := Lib.hid c2
  dsimp only at P
  clear h rw p o q0 own hm
  generalize L.length = l at *
  go_enter Try.func14, Try.ntmps14
  go_wp2_with fail
  go_region
  go_wp2_with fail
  have C1 := Lib.hid c1
  clear c0 c2 hv
  go_region_held3 (fun w' => w'.cell? ⟨k, 1, none⟩ = some (.int .i64 n)) (first | exact C1.out | exact K1.out) (first
    | (go_at_call 28; (with_reducible refine P.out.mono ?_); rintro e w1 ⟨rfl, g, c', M, q1, r1, p1, o1, hkg, a1, g1⟩; have k1 : w1.cell? ⟨k, 1, none⟩ = some (.int .i64 n) := cell_of_row w1 k 1 _ _ _ q1; have f1 := frozen_of_row w1 k 1 _ _ q1; have K1 := Lib.hid k1; have Q1 := Lib.hid q1; have R1 := Lib.hid r1; have P1 := Lib.hid p1; have O1 := Lib.hid o1; have HKG := Lib.hid hkg; have A1 := Lib.hid a1; have G1 := Lib.hid g1; clear q1 r1 p1 o1 hkg a1 g1))
  go_wp2
  go_ret
  have pp : M.Perm (ins ⟨t, r, d, n, .int .i64 u, rfl⟩ S) := P1.out.trans ((HP.out.cons _).trans (ins_perm _ _).symm)
  have few : l < 65536 := by omega
  have ln : M.length = l + 1 := by
    rcases R1.out.2 with ⟨h, _⟩ | ⟨_, _, _, h, _⟩
    · cases h
    · injection h with _ h _; exact h.symm
  refine ⟨rfl, .slice (some ⟨g, 0, none⟩) (l + 1) c', ⟨⟨M, Row.of_block R1.out (fun j hj => Go.heap_setCell_other w1 ⟨k, 1, none⟩ j _ (fun e => HKG.out (by injection hj with hj; exact (hj.trans e).symm))), pp, O1.out⟩, Go.heap_setCell_same w1 k 1 _ _ _ Q1.out, fun e => HKG.out (by injection e with e; exact e.symm), ins_sorted HS.out.up HS.out.old, fun y hy => ?_, by rw [← pp.length_eq, ln]; omega⟩, fun j hj => ?_, ?_⟩
  · rcases List.mem_cons.1 ((ins_perm _ S).mem_iff.1 hy) with rfl | hy
    · exact Int.lt_succ n
    · have := HS.out.old y hy; omega
  · injection hj with hj
    rcases A1.out with a | a
    · exact Or.inl (hj ▸ a)
    · exact Or.inr (hj ▸ a)
  · exact Chg.setCell (X := fun j => j = k ∨ v.ownBlock = some j) (p := ⟨k, 1, none⟩) (Chg.of_drew (Chg.of_drew G1.out)) (Or.inl rfl) _
end Go.Proofs.Ytniemmnmiefgeaa.QueueW
