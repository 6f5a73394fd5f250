/- The landed port: Take. -/
import Derived.Test.YtpliidkfllacpaaPortG
namespace Go.Proofs.Ytpliidkfllacpaa.PortW
open Go.RowKit Shell
section
variable {W0 W W1 W2 : World} {lo g m l p q k : Nat} {r e : List Da} {vr ve : Value} {x : Da} {X X' : Nat → Prop}
theorem Turn.kept (t : Turn X X' W W1) (kp : Kept k W1 W2) (hk : W.heap.size ≤ k) : Turn X X' W W2 :=
  ⟨kp.os.trans t.os, kp.tape.trans t.tape, kp.output.trans t.output, Nat.le_trans t.size kp.size, fun j hj hx => (kp.block j (by omega) (Nat.lt_of_lt_of_le hj t.size)).trans (t.block j hj hx), t.foot⟩
theorem PM.kept (h : PM lo g m r e l vr ve W1) (kp : Kept k W1 W2) (hk : ¬ XP g vr ve k) : PM lo g m r e l vr ve W2 :=
  h.keep kp.size (fun j hj => kp.block j (fun e => hk (e ▸ hj)) (h.lt j hj).2)
/-- A port, a box for the result, and a box that holds a frame, while the call goes on. -/
structure OB2 (W0 : World) (p q : Nat) (x : Da) (lo g m : Nat) (r e : List Da) (l : Nat) (vr ve : Value) (W : World) : Prop where
  b : Below W0.heap.size W0 W
  bp : W.heap[p]? = some (dbx zD)
  bq : W.heap[q]? = some (dbx x)
  p : PM lo g m r e l vr ve W
theorem OB2.next (h : OB2 W0 p q x lo g m r e l vr ve W) (b : Below W.heap.size W W1) : OB2 W0 p q x lo g m r e l vr ve W1 := ⟨h.b.trans (b.mono h.b.size), row_below b h.bp, row_below b h.bq, h.p.below b⟩
theorem OB2.start (h : OB1 W0 p zD lo g m r e l vr ve W) (x : Da) : OB2 W0 p W.heap.size x lo g m r e l vr ve (W.alloc (dbx x)) :=
  ⟨al h.b _ |> fun h2 => ⟨h2.os, h2.tape, h2.output, h2.size, h2.block⟩, row_below (al (Below.refl _ _) _) h.bx, heap_alloc_new _ _, h.p.below (al (Below.refl _ _) _)⟩
theorem take_n (W : World) : Calls Try.prog 13 #[.pointer none] W fun v W' => v = .returned (.tuple #[dv zD, .bool false]) ∧ Below W.heap.size W W' := by
  have X0 := Lib.hid (heap_alloc_new W (dbx zD))
  have B0 := Lib.hid (al (Below.refl W.heap.size W) (dbx zD))
  go_enter Try.func13, Try.ntmps13
  go_wp2_with fail
  refine (peek_n _).mono ?_
  rintro v w1 ⟨rfl, b1⟩
  have X1 := Lib.hid (row_below (al b1 (dbx zD)) X0.out)
  have Y1 := Lib.hid (heap_alloc_new w1 (dbx zD))
  have B1 := Lib.hid (B0.out.trans ((al b1 (dbx zD)).mono B0.out.size))
  obtain ⟨c0, c1, c2, c3, c4⟩ := cells5 X1.out
  obtain ⟨d0, d1, d2, d3, d4⟩ := cells5 Y1.out
  obtain ⟨f0, f1, f2, f3, f4⟩ := frozen5 X1.out
  clear b1
  go_wp2
  exact ret_datb rfl rfl (put5 X1.out _ _ _ _ _) ⟨rfl, ((kept5 _ _ _ _ _ _ _).below (Nat.le_refl _) B1.out.size |> B1.out.trans)⟩
set_option maxHeartbeats 4000000 in
theorem take_none (h : PM lo g m [] [] l vr ve W) : Calls Try.prog 13 #[.pointer (some ⟨g, 0, none⟩)] W fun v W' => v = .returned (.tuple #[dv zD, .bool false]) ∧ Below W.heap.size W W' := by
  have X0 := Lib.hid (heap_alloc_new W (dbx zD))
  have B0 := Lib.hid (al (Below.refl W.heap.size W) (dbx zD))
  have HM := Lib.hid (h.below B0.out)
  clear h
  go_enter Try.func13, Try.ntmps13
  go_wp2_with fail
  refine (peek_m HM.out).mono ?_
  rintro v w1 ⟨hv, b1⟩
  obtain rfl : v = .returned (.tuple #[dv zD, .bool false]) := hv
  have X1 := Lib.hid (row_below (al b1 (dbx zD)) X0.out)
  have Y1 := Lib.hid (heap_alloc_new w1 (dbx zD))
  have B1 := Lib.hid (B0.out.trans ((al b1 (dbx zD)).mono B0.out.size))
  obtain ⟨c0, c1, c2, c3, c4⟩ := cells5 X1.out
  obtain ⟨d0, d1, d2, d3, d4⟩ := cells5 Y1.out
  obtain ⟨f0, f1, f2, f3, f4⟩ := frozen5 X1.out
  clear b1
  go_wp2
  exact ret_datb rfl rfl (put5 X1.out _ _ _ _ _) ⟨rfl, ((kept5 _ _ _ _ _ _ _).below (Nat.le_refl _) B1.out.size |> B1.out.trans)⟩
set_option maxHeartbeats 4000000 in
set_option maxRecDepth 100000 in
theorem take_r (h : PM lo g m (x :: r) e l vr ve W0) : Calls Try.prog 13 #[.pointer (some ⟨g, 0, none⟩)] W0 fun v W' => v = .returned (.tuple #[dv x, .bool true]) ∧ ∃ v3, PM lo g m r e l v3 ve W' ∧ Turn (XP g vr ve) (XP g v3 ve) W0 W' := by
  obtain ⟨b0, off, cap, rfl, -, -⟩ := ls_cons h.ra
  have S0 := Lib.hid (OB1.start h zD)
  have HP := Lib.hid h
  generalize hn : r.length = n at *
  have HN := Lib.hid hn
  clear h hn
  go_enter Try.func13, Try.ntmps13
  go_wp2_with fail
  refine (peek_m S0.out.p).mono ?_
  rintro v w1 ⟨hv, b1⟩
  obtain rfl : v = .returned (.tuple #[dv x, .bool true]) := hv
  have S1 := Lib.hid (OB2.start (S0.out.next b1) x)
  have QQ := Lib.hid (show W0.heap.size ≤ w1.heap.size from (S0.out.next b1).b.size)
  clear b1 S0
  generalize hp0 : W0.heap.size = p at *
  have PP := Lib.hid hp0
  clear hp0
  go_wp2_with fail
  generalize w1.heap.size = q at *
  generalize w1.alloc _ = w2 at *
  refine (next_m S1.out.p).mono ?_
  rintro v w3 ⟨hv, b3⟩
  obtain rfl : v = .returned (.pointer (some ⟨g, 2, none⟩)) := hv
  have S3 := Lib.hid (S1.out.next b3)
  clear b3 S1
  have LA3 := Lib.hid (show LA FD w3 b0 off cap (x :: r) by
    obtain ⟨b', off', cap', hh, -, hA⟩ := ls_cons S3.out.p.ra
    cases hh
    exact hA)
  have BG := Lib.hid (show b0 ≠ g from fun e => HP.out.nr (by rw [e]; rfl))
  have BP := Lib.hid (show b0 < p from by have := (HP.out.ra.lt b0 rfl).2; have := PP.out; omega)
  have GP := Lib.hid (show g < p from by have := lt_of_heap HP.out.b; have := PP.out; omega)
  obtain ⟨c0, c1, c2, c3⟩ := cells4 S3.out.p.b
  go_wp2_with fail
  clear c0 c1 c2 c3
  refine (delete_any b0 off cap r x n w3 LA3.out HN.out).mono ?_
  rintro v w4 ⟨rfl, hA, hK⟩
  have CUT := Lib.hid (PM.cut_r HP.out HN.out S3.out.b hA hK)
  have G4 := Lib.hid ((hK.block g (fun e => BG.out e.symm) (lt_of_heap S3.out.p.b)).trans S3.out.p.b)
  have P4 := Lib.hid ((hK.block p (by have := BP.out; omega) (lt_of_heap S3.out.bp)).trans S3.out.bp)
  have Q4 := Lib.hid ((hK.block q (by have := BP.out; have := QQ.out; omega) (lt_of_heap S3.out.bq)).trans S3.out.bq)
  have P5 := Lib.hid (((kept1 w4 g 2 (.slice (some ⟨b0, off, none⟩) n cap)).block p (by have := GP.out; omega) (lt_of_heap P4.out)).trans P4.out)
  have Q5 := Lib.hid (((kept1 w4 g 2 (.slice (some ⟨b0, off, none⟩) n cap)).block q (by have := GP.out; have := QQ.out; omega) (lt_of_heap Q4.out)).trans Q4.out)
  obtain ⟨c0, c1, c2, c3⟩ := cells4 G4.out
  obtain ⟨f0, f1, f2, f3⟩ := frozen4 G4.out
  obtain ⟨d0, d1, d2, d3, d4⟩ := cells5 Q5.out
  obtain ⟨k0, k1, k2, k3, k4⟩ := cells5 P5.out
  obtain ⟨h0, h1, h2, h3, h4⟩ := frozen5 P5.out
  clear hA hK
  go_wp2
  have K6 := kept5 (w4.setCell ⟨g, 2, none⟩ (.slice (some ⟨b0, off, none⟩) n cap)) p (.int .i64 x.c) (.int .i64 x.l) (.int .i64 x.n) (.string x.p) (.int .i64 x.s)
  exact ret_datb rfl rfl (put5 P5.out _ _ _ _ _) ⟨rfl, _, CUT.out.1.kept K6 (fun hx => by have := (HP.out.lt p hx).2; have := PP.out; omega), CUT.out.2.kept K6 (by have := PP.out; omega)⟩
set_option maxHeartbeats 4000000 in
set_option maxRecDepth 100000 in
theorem take_e (h : PM lo g m [] (x :: e) l vr ve W0) : Calls Try.prog 13 #[.pointer (some ⟨g, 0, none⟩)] W0 fun v W' => v = .returned (.tuple #[dv x, .bool true]) ∧ ∃ v3, PM lo g m [] e l vr v3 W' ∧ Turn (XP g vr ve) (XP g vr v3) W0 W' := by
  obtain ⟨b0, off, cap, rfl, -, -⟩ := ls_cons h.ef
  have S0 := Lib.hid (OB1.start h zD)
  have HP := Lib.hid h
  generalize hn : e.length = n at *
  have HN := Lib.hid hn
  clear h hn
  go_enter Try.func13, Try.ntmps13
  go_wp2_with fail
  refine (peek_m S0.out.p).mono ?_
  rintro v w1 ⟨hv, b1⟩
  obtain rfl : v = .returned (.tuple #[dv x, .bool true]) := hv
  have S1 := Lib.hid (OB2.start (S0.out.next b1) x)
  have QQ := Lib.hid (show W0.heap.size ≤ w1.heap.size from (S0.out.next b1).b.size)
  clear b1 S0
  generalize hp0 : W0.heap.size = p at *
  have PP := Lib.hid hp0
  clear hp0
  go_wp2_with fail
  generalize w1.heap.size = q at *
  generalize w1.alloc _ = w2 at *
  refine (next_m S1.out.p).mono ?_
  rintro v w3 ⟨hv, b3⟩
  obtain rfl : v = .returned (.pointer (some ⟨g, 3, none⟩)) := hv
  have S3 := Lib.hid (S1.out.next b3)
  clear b3 S1
  have LA3 := Lib.hid (show LA FD w3 b0 off cap (x :: e) by
    obtain ⟨b', off', cap', hh, -, hA⟩ := ls_cons S3.out.p.ef
    cases hh
    exact hA)
  have BG := Lib.hid (show b0 ≠ g from fun e => HP.out.ne (by rw [e]; rfl))
  have BP := Lib.hid (show b0 < p from by have := (HP.out.ef.lt b0 rfl).2; have := PP.out; omega)
  have GP := Lib.hid (show g < p from by have := lt_of_heap HP.out.b; have := PP.out; omega)
  obtain ⟨c0, c1, c2, c3⟩ := cells4 S3.out.p.b
  go_wp2_with fail
  clear c0 c1 c2 c3
  refine (delete_any b0 off cap e x n w3 LA3.out HN.out).mono ?_
  rintro v w4 ⟨rfl, hA, hK⟩
  have CUT := Lib.hid (PM.cut_e HP.out HN.out S3.out.b hA hK)
  have G4 := Lib.hid ((hK.block g (fun e => BG.out e.symm) (lt_of_heap S3.out.p.b)).trans S3.out.p.b)
  have P4 := Lib.hid ((hK.block p (by have := BP.out; omega) (lt_of_heap S3.out.bp)).trans S3.out.bp)
  have Q4 := Lib.hid ((hK.block q (by have := BP.out; have := QQ.out; omega) (lt_of_heap S3.out.bq)).trans S3.out.bq)
  have P5 := Lib.hid (((kept1 w4 g 3 (.slice (some ⟨b0, off, none⟩) n cap)).block p (by have := GP.out; omega) (lt_of_heap P4.out)).trans P4.out)
  have Q5 := Lib.hid (((kept1 w4 g 3 (.slice (some ⟨b0, off, none⟩) n cap)).block q (by have := GP.out; have := QQ.out; omega) (lt_of_heap Q4.out)).trans Q4.out)
  obtain ⟨c0, c1, c2, c3⟩ := cells4 G4.out
  obtain ⟨f0, f1, f2, f3⟩ := frozen4 G4.out
  obtain ⟨d0, d1, d2, d3, d4⟩ := cells5 Q5.out
  obtain ⟨k0, k1, k2, k3, k4⟩ := cells5 P5.out
  obtain ⟨h0, h1, h2, h3, h4⟩ := frozen5 P5.out
  clear hA hK
  go_wp2
  have K6 := kept5 (w4.setCell ⟨g, 3, none⟩ (.slice (some ⟨b0, off, none⟩) n cap)) p (.int .i64 x.c) (.int .i64 x.l) (.int .i64 x.n) (.string x.p) (.int .i64 x.s)
  exact ret_datb rfl rfl (put5 P5.out _ _ _ _ _) ⟨rfl, _, CUT.out.1.kept K6 (fun hx => by have := (HP.out.lt p hx).2; have := PP.out; omega), CUT.out.2.kept K6 (by have := PP.out; omega)⟩
end
end Go.Proofs.Ytpliidkfllacpaa.PortW
