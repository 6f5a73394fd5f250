/- one; the chapter's examples, of any port that is as asked. -/
import Derived.Test.YtpliidkfllacpaaPortI
import Derived.Laws.Pointers
namespace Go.Proofs.Ytpliidkfllacpaa.PortW
open Go.RowKit Shell
theorem results_dat1 {fn : Func} {p : Tmp} (h : fn.results = #[.cell p 30]) (tmps : Array Value) (w : World) (g : Nat) (t : TypeId) (x1 x2 x3 x4 x5 : Value) (fr : Nat × Nat)
    (hp : tmps.getD p undef = .pointer (some ⟨g, 0, none⟩)) (hg : w.heap[g]? = some (.cells #[x1, x2, x3, x4, x5] t fr)) :
    (results fn tmps).run Try.prog w = .ok (.agg #[x1, x2, x3, x4, x5]) w := by
  have hp' : tmps[p]?.getD undef = .pointer (some ⟨g, 0, none⟩) := by simpa using hp
  simp [results, h, hp', asAddr, run_loadVar_row w g t 30 #[x1, x2, x3, x4, x5] fr _ hg Try.underlying30 rfl (by kernel_rfl)]
theorem ret_dat1 {fn : Func} {R : Ending → World → Prop} {p : Tmp} (h : fn.results = #[.cell p 30]) {tmps : Array Value} {w : World} {g : Nat} {x1 x2 x3 x4 x5 : Value} {t : TypeId} {fr : Nat × Nat}
    (hp : tmps.getD p undef = .pointer (some ⟨g, 0, none⟩)) (hg : w.heap[g]? = some (.cells #[x1, x2, x3, x4, x5] t fr)) (hR : R (.returned (.agg #[x1, x2, x3, x4, x5])) w) :
    bodyPost Try.prog fn R .ret { tmps := tmps, defers := [] } w :=
  bodyPost_ret (results_dat1 h tmps w g t x1 x2 x3 x4 x5 fr hp hg) rfl hR
/-- A frame of a class, with a number. -/
abbrev od (k n : Int) : Da := ⟨k, 0, n, ⟨#[]⟩, 64⟩
theorem od_ok {k n : Int} (hk : k = 2 ∨ k = 3) (hn : 0 ≤ n ∧ n ≤ 2147483647) : okP (od k n) := by
  refine ⟨⟨Or.inr hk, show (0 : Int) ≤ 0 by decide, show (0 : Int) ≤ 255 by decide, hn.1, hn.2, show (64 : Int) ≤ 64 by decide, show (64 : Int) ≤ 1518 by decide, ?_⟩, ?_⟩
  · show ((FrameW.bs ⟨#[]⟩).length : Int) ≤ 64 - 14
    simp [FrameW.bs]
  · show k ≠ 1
    omega
theorem od_p (k n : Int) : (od k n).p.size ≤ maxLen := by show (0 : Nat) ≤ maxLen; omega
set_option maxHeartbeats 1000000 in
theorem one_any (k n : Int) (w : World) : Calls Try.prog 19 #[.int .i64 k, .int .i64 n] w fun r w' => r = .returned (dv (od k n)) ∧ Below w.heap.size w w' := by
  have B := Lib.hid (al (Below.refl w.heap.size w) (dbx (od k n)))
  have H := Lib.hid (heap_alloc_new w (dbx (od k n)))
  go_enter Try.func19, Try.ntmps19
  go_wp2
  exact ret_dat1 rfl rfl H.out ⟨rfl, B.out⟩
section
variable {PI : Nat → (Nat → Prop) → Nat → Nat → List Da → List Da → Nat → World → Prop}
set_option maxHeartbeats 8000000 in
set_option maxRecDepth 100000 in
theorem fixed_any (S : Spec PI) (w : World) : Calls Try.prog 7 #[] w fun r w' => r = .returned (.bool true) ∧ Below w.heap.size w w' := by
  have SH := Lib.hid S
  clear S
  go_enter Try.func7, Try.ntmps7
  go_wp2_with fail
  refine (SH.out.new_ok 2 _ (by omega) (by omega)).mono ?_
  rintro v w1 ⟨g, X0, rfl, p1, b1⟩
  have P1 := Lib.hid (show PS PI w X0 g 2 [] [] 0 w1 from ⟨p1, b1⟩)
  clear p1 b1
  go_wp2_with fail
  refine (SH.out.new_no 0 _ (by omega)).mono ?_
  rintro v w2 ⟨rfl, b2⟩
  have Q0 := Lib.hid (P1.out.next SH.out b2)
  clear P1 b2
  go_wp2_with fail
  refine (one_any 3 1 _).mono ?_
  rintro v a0 ⟨rfl, ba0⟩
  have R0 := Lib.hid (Q0.out.next SH.out ba0)
  clear ba0 Q0
  go_wp2_with fail
  refine (SH.out.offer_ok (od 3 1) R0.out.p (od_p _ _) (od_ok (by decide) (by decide)) (by decide)).mono ?_
  rintro v c0 ⟨hv, X1, q0, t0⟩
  obtain rfl : v = .returned (.int .i64 0) := hv
  have Q1 := Lib.hid (show PS PI w X1 g 2 [] [od 3 1] 0 c0 from R0.out.turn SH.out q0 t0)
  clear q0 t0 R0
  go_wp2_with fail
  refine (one_any 2 2 _).mono ?_
  rintro v a1 ⟨rfl, ba1⟩
  have R1 := Lib.hid (Q1.out.next SH.out ba1)
  clear ba1 Q1
  go_wp2_with fail
  refine (SH.out.offer_ok (od 2 2) R1.out.p (od_p _ _) (od_ok (by decide) (by decide)) (by decide)).mono ?_
  rintro v c1 ⟨hv, X2, q1, t1⟩
  obtain rfl : v = .returned (.int .i64 0) := hv
  have Q2 := Lib.hid (show PS PI w X2 g 2 [od 2 2] [od 3 1] 0 c1 from R1.out.turn SH.out q1 t1)
  clear q1 t1 R1
  go_wp2_with fail
  refine (one_any 2 3 _).mono ?_
  rintro v a2 ⟨rfl, ba2⟩
  have R2 := Lib.hid (Q2.out.next SH.out ba2)
  clear ba2 Q2
  go_wp2_with fail
  refine (SH.out.offer_full (od 2 3) R2.out.p (od_p _ _) (od_ok (by decide) (by decide)) rfl (by decide)).mono ?_
  rintro v c2 ⟨hv, X3, q2, t2⟩
  obtain rfl : v = .returned (.int .i64 6) := hv
  have Q3 := Lib.hid (show PS PI w X3 g 2 [od 2 2] [od 3 1] 1 c2 from R2.out.turn SH.out q2 t2)
  clear q2 t2 R2
  go_wp2_with fail
  refine (SH.out.peek Q3.out.p).mono ?_
  rintro v d1 ⟨hv, X4, q, t⟩
  obtain rfl : v = .returned (.tuple #[dv (od 2 2), .bool true]) := hv
  have Q4 := Lib.hid (Q3.out.turn SH.out q t)
  clear q t Q3
  have Q5 := Lib.hid (Q4.out.next SH.out (al (Below.refl _ _) (dbx (od 2 2))))
  have B1 := Lib.hid (heap_alloc_new d1 (dbx (od 2 2)))
  have N1 := Lib.hid (Q4.out.new SH.out (Nat.le_refl _))
  clear Q4
  go_wp2_with fail
  generalize d1.heap.size = g1 at *
  generalize d1.alloc _ = d2 at *
  refine (SH.out.take Q5.out.p).mono ?_
  rintro v d3 ⟨hv, X5, q, t⟩
  obtain rfl : v = .returned (.tuple #[dv (od 2 2), .bool true]) := hv
  have Q6 := Lib.hid (show PS PI w X5 g 2 [] [od 3 1] 1 d3 from Q5.out.turn SH.out q t)
  have B2 := Lib.hid (t.bx B1.out N1.out)
  clear q t Q5 B1 N1
  have Q7 := Lib.hid (Q6.out.next SH.out (al (Below.refl _ _) (dbx (od 2 2))))
  have B3 := Lib.hid (heap_alloc_new d3 (dbx (od 2 2)))
  have B4 := Lib.hid (row_below (al (Below.refl _ _) (dbx (od 2 2))) B2.out.1)
  have N2 := Lib.hid B2.out.2
  have N3 := Lib.hid (Q6.out.new SH.out (Nat.le_refl _))
  clear Q6 B2
  go_wp2_with fail
  generalize d3.heap.size = g2 at *
  generalize d3.alloc _ = d4 at *
  refine (SH.out.clear Q7.out.p).mono ?_
  rintro v d5 ⟨A, n, c, rfl, ⟨hn, hc, hA, sg⟩, X6, q, t, hnx⟩
  obtain rfl : n = 1 := hn
  obtain ⟨zb, zo, rfl, z0, z1, z2, z3, z4⟩ := sg5 sg (k := 0) (x := od 3 1) rfl
  have Q8 := Lib.hid (Q7.out.turn SH.out q t)
  have B5 := Lib.hid (t.bx B3.out N3.out)
  have B6 := Lib.hid (t.bx B4.out N2.out)
  have Z2 := Lib.hid z2
  have ZX := Lib.hid (hnx _ rfl).2
  clear hnx q t Q7 B3 B4 N2 N3 hc hA sg z0 z1 z2 z3 z4
  go_wp2_with fail
  refine (SH.out.take Q8.out.p).mono ?_
  rintro v d6 ⟨hv, X7, q, t⟩
  obtain rfl : v = .returned (.tuple #[dv zD, .bool false]) := hv
  have Q9 := Lib.hid (Q8.out.turn SH.out q t)
  have B7 := Lib.hid (t.bx B5.out.1 B5.out.2)
  have B8 := Lib.hid (t.bx B6.out.1 B6.out.2)
  have Z3 := Lib.hid (t.cell Z2.out ZX.out)
  clear q t Q8 B5 B6 Z2 ZX
  have Q10 := Lib.hid (Q9.out.next SH.out (al (Below.refl _ _) (dbx zD)))
  have x2 := (cells5 (row_below (al (Below.refl _ _) (dbx zD)) B8.out.1)).2.2.1
  have y2 := (cells5 (row_below (al (Below.refl _ _) (dbx zD)) B7.out.1)).2.2.1
  have z2 := cell_keep Z3.out (al (Below.refl d6.heap.size d6) (dbx zD))
  clear Q9 B7 B8 Z3
  rw [Nat.zero_mul, Nat.add_zero] at z2
  go_wp2_with fail
  refine (SH.out.lost Q10.out.p).mono ?_
  rintro v d7 ⟨rfl, X8, q, t⟩
  have Q11 := Lib.hid (Q10.out.turn SH.out q t)
  clear q t Q10 x2 y2 z2
  go_wp2_with fail
  refine (SH.out.len Q11.out.p).mono ?_
  rintro v d8 ⟨hv, X9, q, t⟩
  obtain rfl : v = .returned (.int .i64 0) := hv
  have Q12 := Lib.hid (Q11.out.turn SH.out q t)
  clear q t Q11
  go_wp2
  go_ret
  exact ⟨rfl, Q12.out.b⟩
end
end Go.Proofs.Ytpliidkfllacpaa.PortW
