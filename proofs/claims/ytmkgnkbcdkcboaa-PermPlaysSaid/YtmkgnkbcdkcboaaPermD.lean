/- Package perm's Take. -/
import Derived.Test.YtmkgnkbcdkcboaaPermC
namespace Go.Proofs.Ytmkgnkbcdkcboaa.PermW
open Go.RowKit Shell
open QueueW hiding al cell_keep
open ClockW (CK CI tell tell_iff sh wh)
open FrameW (CV rightC)
theorem below_drew {w w1 : World} (h : Below w.drew.heap.size w.drew w1) : Below w.heap.size w w1 := ⟨h.os, h.tape, h.output, h.size, h.block⟩
theorem qs_drew {w : World} {k : Nat} {m n : Int} {v : Value} {S : List It} (h : QSC w k m n v S) : QSC w.drew k m n v S := by
  obtain ⟨L, r, p, o⟩ := h.row
  exact ⟨⟨L, Row.drew r, p, o⟩, h.blk, h.own, h.up, h.old, h.few⟩
theorem below_drew2 {w w1 : World} (h : Below w.drew.drew.heap.size w.drew.drew w1) : Below w.heap.size w w1 := ⟨h.os, h.tape, h.output, h.size, h.block⟩
theorem take_nil (A : Option Addr) (t k f y c l : Int) (w : World) : Calls Try.prog 11 #[.pointer none, .pointer A, .int .i64 t, CV k f y c l] w fun e w' => e = .returned (.tuple #[.int .i64 0, .int .i64 1]) ∧ Below w.heap.size w w' := by
  go_enter Try.func11, Try.ntmps11
  go_wp2
  go_ret2
  exact ⟨rfl, al (Below.refl _ _) _⟩
theorem take_wrong {w : World} {h q j : Nat} {d n : Int} {v : Value} {S : List It} {m b r : Int} (H : HK w h q d n v S) (C : CK w j m b r) (_hi : CI m b r) (t k f y c l : Int) (hc : 0 ≤ c) (hr : ¬ rightC k f y c l) : Calls Try.prog 11 #[.pointer (some ⟨h, 0, none⟩), .pointer (some ⟨j, 0, none⟩), .int .i64 t, CV k f y c l] w fun e w' => e = .returned (.tuple #[.int .i64 0, .int .i64 1]) ∧ Below w.heap.size w w' := by
  have HH := Lib.hid H
  have HC := Lib.hid C
  clear H C
  go_enter Try.func11, Try.ntmps11
  go_wp2_with fail
  have B := Lib.hid (al (Below.refl w.heap.size w) (cbx k f y c l))
  have X0 := Lib.hid (heap_alloc_new w (cbx k f y c l))
  generalize w.alloc (.cells #[.int .i64 k, .int .i64 f, .int .i64 y, .int .u32 c, .int .i64 l] 37 (0, 0)) = W at *
  have R := isRight_any k f y c l hc W
  rw [decide_eq_false hr] at R
  have R := Lib.hid R
  obtain ⟨d0, d1, d2, d3, d4⟩ := cells5 X0.out
  go_wp2_with (go_at_call 26; refine R.out.mono ?_; rintro e w1 ⟨rfl, b1⟩; have B1 := Lib.hid b1; clear b1)
  go_ret2
  exact ⟨rfl, B.out.trans (B1.out.mono B.out.size)⟩
set_option maxHeartbeats 1000000 in
theorem take_above {w : World} {h q j : Nat} {d n : Int} {v : Value} {S : List It} {m b r : Int} (H : HK w h q d n v S) (C : CK w j m b r) (_hi : CI m b r) (t k f y c l : Int) (hc : 0 ≤ c) (hr : rightC k f y c l) (hl : d < l) : Calls Try.prog 11 #[.pointer (some ⟨h, 0, none⟩), .pointer (some ⟨j, 0, none⟩), .int .i64 t, CV k f y c l] w fun e w' => e = .returned (.tuple #[.int .i64 0, .int .i64 4]) ∧ Below w.heap.size w w' := by
  have HH := Lib.hid H
  have HC := Lib.hid C
  clear H C
  go_enter Try.func11, Try.ntmps11
  go_wp2_with fail
  have B := Lib.hid (al (Below.refl w.heap.size w) (cbx k f y c l))
  have X0 := Lib.hid (heap_alloc_new w (cbx k f y c l))
  generalize w.alloc (.cells #[.int .i64 k, .int .i64 f, .int .i64 y, .int .u32 c, .int .i64 l] 37 (0, 0)) = W at *
  have R := isRight_any k f y c l hc W
  rw [decide_eq_true hr] at R
  have R := Lib.hid R
  obtain ⟨d0, d1, d2, d3, d4⟩ := cells5 X0.out
  go_wp2_with (go_at_call 26; refine R.out.mono ?_; rintro e w1 ⟨rfl, b1⟩; have B1 := Lib.hid b1; clear b1)
  clear d0 d1 d2 d3 d4
  have X1 := Lib.hid (row_below B1.out X0.out)
  have H1 := Lib.hid ((HH.out.below B.out).below B1.out)
  obtain ⟨d0, d1, d2, d3, d4⟩ := cells5 X1.out
  obtain ⟨c0, c1⟩ := H1.out.cells
  go_region
  go_wp2_with fail
  go_ret2
  exact ⟨rfl, (B.out.trans (B1.out.mono B.out.size)).drew⟩
set_option maxHeartbeats 2000000 in
theorem take_err {w : World} {h q j : Nat} {d n : Int} {v : Value} {S : List It} {m b r : Int} (H : HK w h q d n v S) (C : CK w j m b r) (_hi : CI m b r) (t k f y c l : Int) (hc : 0 ≤ c) (hr : rightC k f y c l) (hl : ¬ d < l) (a0 a1 : Int) (ha : du m b r t l d (tell m t) = (a0, a1)) (h1 : ¬ a1 = 0) : Calls Try.prog 11 #[.pointer (some ⟨h, 0, none⟩), .pointer (some ⟨j, 0, none⟩), .int .i64 t, CV k f y c l] w fun e w' => e = .returned (.tuple #[.int .i64 0, .int .i64 a1]) ∧ Below w.heap.size w w' := by
  have HH := Lib.hid H
  have HC := Lib.hid C
  clear H C
  go_enter Try.func11, Try.ntmps11
  go_wp2_with fail
  have B := Lib.hid (al (Below.refl w.heap.size w) (cbx k f y c l))
  have X0 := Lib.hid (heap_alloc_new w (cbx k f y c l))
  generalize w.alloc (.cells #[.int .i64 k, .int .i64 f, .int .i64 y, .int .u32 c, .int .i64 l] 37 (0, 0)) = W at *
  have R := isRight_any k f y c l hc W
  rw [decide_eq_true hr] at R
  have R := Lib.hid R
  obtain ⟨d0, d1, d2, d3, d4⟩ := cells5 X0.out
  go_wp2_with (go_at_call 26; refine R.out.mono ?_; rintro e w1 ⟨rfl, b1⟩; have B1 := Lib.hid b1; clear b1)
  clear d0 d1 d2 d3 d4
  have X1 := Lib.hid (row_below B1.out X0.out)
  have H1 := Lib.hid ((HH.out.below B.out).below B1.out)
  obtain ⟨d0, d1, d2, d3, d4⟩ := cells5 X1.out
  obtain ⟨c0, c1⟩ := H1.out.cells
  go_region
  go_wp2_with fail
  have P1 := Lib.hid (cells5 X1.out)
  have P2 := Lib.hid H1.out.cells
  have D := due_any j m b r t l d w1.drew.drew (show CK w1.drew.drew j m b r from (show CK w1 j m b r from (HC.out.below B.out).below B1.out)) _hi
  rw [ha] at D
  have D := Lib.hid D
  clear d0 d1 d2 d3 d4 c0 c1
  go_region_held3 (fun w' => (w'.cell? ⟨w.heap.size, 0, none⟩ = some (.int .i64 k) ∧ w'.cell? ⟨w.heap.size, 1, none⟩ = some (.int .i64 f) ∧ w'.cell? ⟨w.heap.size, 2, none⟩ = some (.int .i64 y) ∧ w'.cell? ⟨w.heap.size, 3, none⟩ = some (.int .u32 c) ∧ w'.cell? ⟨w.heap.size, 4, none⟩ = some (.int .i64 l)) ∧ (w'.cell? ⟨h, 0, none⟩ = some (.int .i64 d) ∧ w'.cell? ⟨h, 1, none⟩ = some (.pointer (some ⟨q, 0, none⟩)))) (first | exact ⟨P1.out, P2.out⟩ | exact ⟨P3.out, P4.out⟩) (first
    | (go_at_call 20; (with_reducible refine D.out.mono ?_); rintro e w2 ⟨rfl, b2⟩; have B2 := Lib.hid (show Below w1.heap.size w1 w2 from (below_drew2 b2)); have P3 := Lib.hid (cells5 (row_below (below_drew2 b2) X1.out)); have P4 := Lib.hid (H1.out.below (below_drew2 b2)).cells; clear b2))
  go_wp2
  go_ret2
  exact ⟨rfl, (B.out.trans (B1.out.mono B.out.size)).trans (B2.out.mono (Nat.le_trans B.out.size B1.out.size))⟩
set_option maxHeartbeats 4000000 in
theorem take_full {w : World} {h q j : Nat} {d n : Int} {v : Value} {S : List It} {m b r : Int} (H : HK w h q d n v S) (C : CK w j m b r) (_hi : CI m b r) (t k f y c l : Int) (hc : 0 ≤ c) (hr : rightC k f y c l) (hl : ¬ d < l) (a0 : Int) (ha : du m b r t l d (tell m t) = (a0, 0)) (hs : 64 ≤ (S.length : Int)) : Calls Try.prog 11 #[.pointer (some ⟨h, 0, none⟩), .pointer (some ⟨j, 0, none⟩), .int .i64 t, CV k f y c l] w fun e w' => e = .returned (.tuple #[.int .i64 0, .int .i64 6]) ∧ Below w.heap.size w w' := by
  have HH := Lib.hid H
  have HC := Lib.hid C
  clear H C
  go_enter Try.func11, Try.ntmps11
  go_wp2_with fail
  have B := Lib.hid (al (Below.refl w.heap.size w) (cbx k f y c l))
  have X0 := Lib.hid (heap_alloc_new w (cbx k f y c l))
  generalize w.alloc (.cells #[.int .i64 k, .int .i64 f, .int .i64 y, .int .u32 c, .int .i64 l] 37 (0, 0)) = W at *
  have R := isRight_any k f y c l hc W
  rw [decide_eq_true hr] at R
  have R := Lib.hid R
  obtain ⟨d0, d1, d2, d3, d4⟩ := cells5 X0.out
  go_wp2_with (go_at_call 26; refine R.out.mono ?_; rintro e w1 ⟨rfl, b1⟩; have B1 := Lib.hid b1; clear b1)
  clear d0 d1 d2 d3 d4
  have X1 := Lib.hid (row_below B1.out X0.out)
  have H1 := Lib.hid ((HH.out.below B.out).below B1.out)
  obtain ⟨d0, d1, d2, d3, d4⟩ := cells5 X1.out
  obtain ⟨c0, c1⟩ := H1.out.cells
  go_region
  go_wp2_with fail
  have P1 := Lib.hid (cells5 X1.out)
  have P2 := Lib.hid H1.out.cells
  have D := due_any j m b r t l d w1.drew.drew (show CK w1.drew.drew j m b r from (show CK w1 j m b r from (HC.out.below B.out).below B1.out)) _hi
  rw [ha] at D
  have D := Lib.hid D
  clear d0 d1 d2 d3 d4 c0 c1
  go_region_held3 (fun w' => (w'.cell? ⟨w.heap.size, 0, none⟩ = some (.int .i64 k) ∧ w'.cell? ⟨w.heap.size, 1, none⟩ = some (.int .i64 f) ∧ w'.cell? ⟨w.heap.size, 2, none⟩ = some (.int .i64 y) ∧ w'.cell? ⟨w.heap.size, 3, none⟩ = some (.int .u32 c) ∧ w'.cell? ⟨w.heap.size, 4, none⟩ = some (.int .i64 l)) ∧ (w'.cell? ⟨h, 0, none⟩ = some (.int .i64 d) ∧ w'.cell? ⟨h, 1, none⟩ = some (.pointer (some ⟨q, 0, none⟩)))) (first | exact ⟨P1.out, P2.out⟩ | exact ⟨P3.out, P4.out⟩) (first
    | (go_at_call 20; (with_reducible refine D.out.mono ?_); rintro e w2 ⟨rfl, b2⟩; have B2 := Lib.hid (show Below w1.heap.size w1 w2 from (below_drew2 b2)); have P3 := Lib.hid (cells5 (row_below (below_drew2 b2) X1.out)); have P4 := Lib.hid (H1.out.below (below_drew2 b2)).cells; clear b2))
  go_wp2_with fail
  have X2 := Lib.hid (row_below B2.out X1.out)
  have H2 := Lib.hid (H1.out.below B2.out)
  have LT := Lib.hid HH.out.q.lt
  have P5 := Lib.hid (cells5 X2.out)
  have P6 := Lib.hid H2.out.cells
  have U := Lib.hid (pushC_full q 64 n a0 f 0 k f y c l v S w2.drew (qs_drew H2.out.q) hs)
  go_region_held3 (fun w' => (w'.cell? ⟨w.heap.size, 0, none⟩ = some (.int .i64 k) ∧ w'.cell? ⟨w.heap.size, 1, none⟩ = some (.int .i64 f) ∧ w'.cell? ⟨w.heap.size, 2, none⟩ = some (.int .i64 y) ∧ w'.cell? ⟨w.heap.size, 3, none⟩ = some (.int .u32 c) ∧ w'.cell? ⟨w.heap.size, 4, none⟩ = some (.int .i64 l)) ∧ (w'.cell? ⟨h, 0, none⟩ = some (.int .i64 d) ∧ w'.cell? ⟨h, 1, none⟩ = some (.pointer (some ⟨q, 0, none⟩)))) (first | exact ⟨P5.out, P6.out⟩ | exact ⟨P7.out, P8.out⟩) (first
    | (go_at_call 27; (with_reducible refine U.out.mono ?_); rintro e w3 ⟨rfl, b3⟩; have B3 := Lib.hid (below_drew b3); have P7 := Lib.hid (cells5 (row_below B3.out X2.out)); have P8 := Lib.hid (H2.out.below B3.out).cells; clear b3))
  go_wp2
  go_ret2
  exact ⟨rfl, ((B.out.trans (B1.out.mono B.out.size)).trans (B2.out.mono (Nat.le_trans B.out.size B1.out.size))).trans (B3.out.mono (Nat.le_trans (Nat.le_trans B.out.size B1.out.size) B2.out.size))⟩
set_option maxHeartbeats 4000000 in
theorem take_ok {w : World} {h q j : Nat} {d n : Int} {v : Value} {S : List It} {m b r : Int} (H : HK w h q d n v S) (C : CK w j m b r) (_hi : CI m b r) (t k f y c l : Int) (hc : 0 ≤ c) (hr : rightC k f y c l) (hl : ¬ d < l) (a0 : Int) (ha : du m b r t l d (tell m t) = (a0, 0)) (hs : (S.length : Int) < 64) (hn : 0 ≤ n ∧ n < 4611686018427387904) : Calls Try.prog 11 #[.pointer (some ⟨h, 0, none⟩), .pointer (some ⟨j, 0, none⟩), .int .i64 t, CV k f y c l] w fun e w' => e = .returned (.tuple #[.int .i64 a0, .int .i64 0]) ∧
    ∃ v', HK w' h q d (n + 1) v' (ins ⟨a0, f, 0, n, k, f, y, c, l⟩ S) ∧ (∀ i, v'.ownBlock = some i → v.ownBlock = some i ∨ w.heap.size ≤ i) ∧ Chg (fun i => i = q ∨ v.ownBlock = some i) w w' := by
  have HH := Lib.hid H
  have HC := Lib.hid C
  clear H C
  go_enter Try.func11, Try.ntmps11
  go_wp2_with fail
  have B := Lib.hid (al (Below.refl w.heap.size w) (cbx k f y c l))
  have X0 := Lib.hid (heap_alloc_new w (cbx k f y c l))
  generalize w.alloc (.cells #[.int .i64 k, .int .i64 f, .int .i64 y, .int .u32 c, .int .i64 l] 37 (0, 0)) = W at *
  have R := isRight_any k f y c l hc W
  rw [decide_eq_true hr] at R
  have R := Lib.hid R
  obtain ⟨d0, d1, d2, d3, d4⟩ := cells5 X0.out
  go_wp2_with (go_at_call 26; refine R.out.mono ?_; rintro e w1 ⟨rfl, b1⟩; have B1 := Lib.hid b1; clear b1)
  clear d0 d1 d2 d3 d4
  have X1 := Lib.hid (row_below B1.out X0.out)
  have H1 := Lib.hid ((HH.out.below B.out).below B1.out)
  obtain ⟨d0, d1, d2, d3, d4⟩ := cells5 X1.out
  obtain ⟨c0, c1⟩ := H1.out.cells
  go_region
  go_wp2_with fail
  have P1 := Lib.hid (cells5 X1.out)
  have P2 := Lib.hid H1.out.cells
  have D := due_any j m b r t l d w1.drew.drew (show CK w1.drew.drew j m b r from (show CK w1 j m b r from (HC.out.below B.out).below B1.out)) _hi
  rw [ha] at D
  have D := Lib.hid D
  clear d0 d1 d2 d3 d4 c0 c1
  go_region_held3 (fun w' => (w'.cell? ⟨w.heap.size, 0, none⟩ = some (.int .i64 k) ∧ w'.cell? ⟨w.heap.size, 1, none⟩ = some (.int .i64 f) ∧ w'.cell? ⟨w.heap.size, 2, none⟩ = some (.int .i64 y) ∧ w'.cell? ⟨w.heap.size, 3, none⟩ = some (.int .u32 c) ∧ w'.cell? ⟨w.heap.size, 4, none⟩ = some (.int .i64 l)) ∧ (w'.cell? ⟨h, 0, none⟩ = some (.int .i64 d) ∧ w'.cell? ⟨h, 1, none⟩ = some (.pointer (some ⟨q, 0, none⟩)))) (first | exact ⟨P1.out, P2.out⟩ | exact ⟨P3.out, P4.out⟩) (first
    | (go_at_call 20; (with_reducible refine D.out.mono ?_); rintro e w2 ⟨rfl, b2⟩; have B2 := Lib.hid (show Below w1.heap.size w1 w2 from (below_drew2 b2)); have P3 := Lib.hid (cells5 (row_below (below_drew2 b2) X1.out)); have P4 := Lib.hid (H1.out.below (below_drew2 b2)).cells; clear b2))
  go_wp2_with fail
  have X2 := Lib.hid (row_below B2.out X1.out)
  have H2 := Lib.hid (H1.out.below B2.out)
  have LT := Lib.hid HH.out.q.lt
  have P5 := Lib.hid (cells5 X2.out)
  have P6 := Lib.hid H2.out.cells
  have lx : ¬ w.heap.size = q := by have := LT.out.1; omega
  have lo : v.ownBlock ≠ some w.heap.size := fun e => by have := LT.out.2 _ e; omega
  have U := Lib.hid (pushC_ok q 64 n a0 f 0 k f y c l v S w2.drew (qs_drew H2.out.q) hs (by decide) hn)
  go_region_held3 (fun w' => (w'.cell? ⟨w.heap.size, 0, none⟩ = some (.int .i64 k) ∧ w'.cell? ⟨w.heap.size, 1, none⟩ = some (.int .i64 f) ∧ w'.cell? ⟨w.heap.size, 2, none⟩ = some (.int .i64 y) ∧ w'.cell? ⟨w.heap.size, 3, none⟩ = some (.int .u32 c) ∧ w'.cell? ⟨w.heap.size, 4, none⟩ = some (.int .i64 l)) ∧ (w'.cell? ⟨h, 0, none⟩ = some (.int .i64 d) ∧ w'.cell? ⟨h, 1, none⟩ = some (.pointer (some ⟨q, 0, none⟩)))) (first | exact ⟨P5.out, P6.out⟩ | exact ⟨P7.out, P8.out⟩) (first
    | (go_at_call 27; (with_reducible refine U.out.mono ?_); rintro e w3 ⟨rfl, v3, q3, o3, g3⟩; have g3 : Chg (fun i => i = q ∨ v.ownBlock = some i) w2 w3 := Chg.of_drew g3; have P7 := Lib.hid (cells5 (g3.heap X2.out (fun e => e.elim lx lo))); have Y3 := Lib.hid (g3.heap H2.out.box (fun e => e.elim H2.out.hk H2.out.ho)); have P8 := Lib.hid (show w3.cell? ⟨h, 0, none⟩ = some (.int .i64 d) ∧ w3.cell? ⟨h, 1, none⟩ = some (.pointer (some ⟨q, 0, none⟩)) from ⟨cell_of_row w3 h 0 _ _ _ Y3.out, cell_of_row w3 h 1 _ _ _ Y3.out⟩); have Q3 := Lib.hid q3; have O3 := Lib.hid o3; have G3 := Lib.hid g3; clear q3 o3 g3))
  go_wp2
  go_ret2
  have b2 := (B.out.trans (B1.out.mono B.out.size)).trans (B2.out.mono (Nat.le_trans B.out.size B1.out.size))
  refine ⟨rfl, v3, ⟨Y3.out, Q3.out, H2.out.hk, fun e => ?_⟩, fun i hi => (O3.out i hi).imp id (fun e => Nat.le_trans b2.size e), (Chg.of b2).trans G3.out (fun _ _ e => e)⟩
  rcases O3.out h e with e | e
  · exact H2.out.ho e
  · have := lt_heap H2.out.box
    exact absurd (show w2.heap.size ≤ h from e) (by omega)
end Go.Proofs.Ytmkgnkbcdkcboaa.PermW
