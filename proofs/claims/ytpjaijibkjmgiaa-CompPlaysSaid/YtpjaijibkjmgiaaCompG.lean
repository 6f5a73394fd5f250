/- Add, where the frame is taken: into an open collection, and into a new one. -/
import Derived.Test.YtpjaijibkjmgiaaCompF
namespace Go.Proofs.Ytpjaijibkjmgiaa.CompW
open Go.RowKit Shell
open CrewW (only has of has_any of_any mem mem_len memTo_range members_any)
open FrameW (CV rightC)
set_option maxHeartbeats 2000000 in
/-- A frame more in an open collection. -/
theorem add_in {w : World} {g : Nat} {d b : Int} {s : Nat} {R C : Nat → Int} (h : w.heap[g]? = some (pbx d b s R C)) (hs : s ≠ 0) (hs2 : s < 64) (hb0 : -1125899906842624 ≤ b ∧ b ≤ 1125899906842624) (hd0 : 0 ≤ d ∧ d ≤ 1048576) (t k : Int) (f : Nat) (y c l : Int) (hc : 0 ≤ c) (ht : okL t = true) (hh : okH k f y c l = true) (hr : ¬ t < b) (hr2 : ¬ b + d < t) (hf : has s f = false) (hf6 : f < 6) :
    Calls Try.prog 11 #[.pointer (some ⟨g, 0, none⟩), .int .i64 t, CV k f y c l] w fun e w' => e = .returned (.tuple #[.int .i64 (b + d), .int .i64 0]) ∧ w'.heap[g]? = some (pbx d b (s ||| only (f : Int)) (upd R f (t - b)) (upd C f y)) ∧ Kept g w w' := by
  have F := Lib.hid (fun W => has_any s f W (by omega))
  rw [hf] at F
  have WI := fun W => with_any b t y c l k f s R C hf6 hs2 (by rw [IntKind.wrap_i64]; have := okL_iff.1 ht; omega) W
  unfold GV at WI
  have WI := Lib.hid WI
  have e0 : decide (s ≠ 0) = true := decide_eq_true hs
  have HH := Lib.hid (fun W => isHosts_any k f y c l hc W)
  rw [hh] at HH
  have O := Lib.hid (fun W (hb : Below w.heap.size w W) => open_any (row_below hb h))
  rw [e0] at O
  have E := Lib.hid (fun W (hb : Below w.heap.size w W) => end_any (row_below hb h) hb0 hd0)
  have E2 := Lib.hid (fun W h => end_any (w := W) (g := g) (d := d) (b := b) (s := s ||| only (f : Int)) (R := upd R f (t - b)) (C := upd C f y) h hb0 hd0)
  have GL := Lib.hid (lt_of_heap h)
  have X := Lib.hid (((Stay.start w).add h).alloc (cb k f y c l))
  obtain ⟨d0, d1, d2, d3, d4⟩ := FrameW.cells5 (X.out.at 0 rfl)
  have e1 : IntKind.i64.wrap (b + d) = b + d := by rw [IntKind.wrap_i64]; omega
  clear hs hh e0 hs2 hf
  go_enter Try.func11, Try.ntmps11
  go_upto_region 7 with (first
    | (go_at_call 20; refine (isLocal_any _ _).mono ?_; rintro e w' ⟨rfl, hw⟩; obtain rfl := hw.symm; rw [ht])
    | (go_at_call 21; refine (HH.out _).mono ?_; rintro e w1 ⟨rfl, b1⟩; have X1 := Lib.hid (X.out.next b1); obtain ⟨a0, a1, a2, a3, a4, a5, a6, a7, a8, a9, a10, a11, a12, a13, a14⟩ := cells15 (X1.out.at 1 rfl); clear b1)
    | (go_at_call 16; refine (O.out _ X1.out.b).mono ?_; rintro e w' ⟨rfl, hw⟩; obtain rfl := hw)
    | (go_at_call 22; refine (E.out _ X1.out.b).mono ?_; rintro e w2 ⟨rfl, b2⟩; have X2 := Lib.hid (X1.out.next b2); clear b2))
  clear a0 a1 a2 a3 a4 a5 a6 a7 a8 a9 a10 a11 a12 a13 a14 d0 d1 d2 d3 d4
  obtain ⟨a0, a1, a2, a3, a4, a5, a6, a7, a8, a9, a10, a11, a12, a13, a14⟩ := cells15 (X2.out.at 1 rfl)
  obtain ⟨d0, d1, d2, d3, d4⟩ := FrameW.cells5 (X2.out.at 0 rfl)
  apply wp_one
  case h =>
    refine wp_region_noPanic ?_
    go_region_law (first | (go_at_call 23; refine (F.out _).mono ?_; rintro e w' ⟨rfl, hw⟩; obtain rfl := hw.symm) | (go_simp; go_at_call 23; refine (F.out _).mono ?_; rintro e w' ⟨rfl, hw⟩; obtain rfl := hw.symm))
    all_goals exact NoPanic.normal ⟨rfl, rfl, rfl⟩
  case hm =>
  have X3 := Lib.hid X2.out.drew
  generalize w2.drew = w3 at *
  go_upto_region 9 with (fail)
  clear a0 a1 a2 a3 a4 a5 a6 a7 a8 a9 a10 a11 a12 a13 a14 d0 d1 d2 d3 d4
  obtain ⟨a0, a1, a2, a3, a4, a5, a6, a7, a8, a9, a10, a11, a12, a13, a14⟩ := cells15 (X3.out.at 1 rfl)
  obtain ⟨d0, d1, d2, d3, d4⟩ := FrameW.cells5 (X3.out.at 0 rfl)
  have kp : Hid (Kept g w w3) := Lib.hid (Kept.of X3.out.b)
  apply wp_some (S := fun w' => w'.heap[g]? = some (pbx d b (s ||| only (f : Int)) (upd R f (t - b)) (upd C f y)) ∧ Kept g w w')
  case h =>
    refine wp_region_noPanic ?_
    go_region_law (first
      | (go_at_call 24; refine (WI.out _).mono ?_; rintro e w8 ⟨rfl, b8⟩; have h8 := row_below b8 (X3.out.at 1 rfl); obtain ⟨p0, p1, p2, p3, p4, p5, p6, p7, p8, p9, p10, p11, p12, p13, p14⟩ := cells15 h8; obtain ⟨f0, f1, f2, f3, f4, f5, f6, f7, f8, f9, f10, f11, f12, f13, f14⟩ := frozen15 h8; have H8 := Lib.hid h8; have B8 := Lib.hid b8; clear h8 b8)
      | (go_simp; go_at_call 24; refine (WI.out _).mono ?_; rintro e w8 ⟨rfl, b8⟩; have h8 := row_below b8 (X3.out.at 1 rfl); obtain ⟨p0, p1, p2, p3, p4, p5, p6, p7, p8, p9, p10, p11, p12, p13, p14⟩ := cells15 h8; obtain ⟨f0, f1, f2, f3, f4, f5, f6, f7, f8, f9, f10, f11, f12, f13, f14⟩ := frozen15 h8; have H8 := Lib.hid h8; have B8 := Lib.hid b8; clear h8 b8))
    all_goals exact NoPanic.normal ⟨rfl, rfl, put14 H8.out _ _ _ _ _ _ _ _ _ _ _ _ _ _ , (kp.out.trans (Kept.of (show Below w3.heap.size w3 _ from ⟨B8.out.os, B8.out.tape, B8.out.output, B8.out.size, B8.out.block⟩))).trans (keep14 _ g _ _ _ _ _ _ _ _ _ _ _ _ _ _ )⟩
  case hm =>
  rintro w9 ⟨h9, k9⟩
  have H9 := Lib.hid h9
  have K9 := Lib.hid k9
  clear a0 a1 a2 a3 a4 a5 a6 a7 a8 a9 a10 a11 a12 a13 a14 d0 d1 d2 d3 d4 h9 k9
  go_wp2_with (go_at_call 22; refine (E2.out _ H9.out).mono ?_; rintro e w10 ⟨rfl, b10⟩; have B10 := Lib.hid b10; clear b10)
  go_ret2
  exact ⟨rfl, row_below B10.out H9.out, K9.out.trans (Kept.of B10.out)⟩
set_option maxHeartbeats 2000000 in
/-- The first frame of a new collection. -/
theorem add_new {w : World} {g : Nat} {d b : Int} {R C : Nat → Int} (h : w.heap[g]? = some (pbx d b 0 R C)) (hd0 : 0 ≤ d ∧ d ≤ 1048576) (t k : Int) (f : Nat) (y c l : Int) (hc : 0 ≤ c) (ht : okL t = true) (hh : okH k f y c l = true) (hf6 : f < 6) :
    Calls Try.prog 11 #[.pointer (some ⟨g, 0, none⟩), .int .i64 t, CV k f y c l] w fun e w' => e = .returned (.tuple #[.int .i64 (t + d), .int .i64 0]) ∧ w'.heap[g]? = some (pbx d t (0 ||| only (f : Int)) (upd zero f 0) (upd zero f y)) ∧ Kept g w w' := by
  have hb0 := okL_iff.1 ht
  obtain ⟨s, hs⟩ : ∃ s : Nat, s = 0 := ⟨_, rfl⟩
  obtain ⟨Z, hZ⟩ : ∃ Z, Z = zero := ⟨_, rfl⟩
  have WI := fun W => with_any t t y c l k f s Z Z hf6 (by omega) (by rw [IntKind.wrap_i64]; omega) W
  simp only [Int.sub_self] at WI
  unfold GV at WI
  have WI := Lib.hid WI
  have e0 : decide ((0 : Nat) ≠ 0) = false := by decide
  have HH := Lib.hid (fun W => isHosts_any k f y c l hc W)
  rw [hh] at HH
  have O := Lib.hid (fun W (hb : Below w.heap.size w W) => open_any (row_below hb h))
  rw [e0] at O
  have E2 := Lib.hid (fun W h => end_any (w := W) (g := g) (d := d) (b := t) (s := s ||| only (f : Int)) (R := upd Z f 0) (C := upd Z f y) h hb0 hd0)
  have GL := Lib.hid (lt_of_heap h)
  have X := Lib.hid (((Stay.start w).add h).alloc (cb k f y c l))
  obtain ⟨d0, d1, d2, d3, d4⟩ := FrameW.cells5 (X.out.at 0 rfl)
  have e1 : IntKind.i64.wrap (t + d) = t + d := by rw [IntKind.wrap_i64]; omega
  clear hh e0 hb0
  go_enter Try.func11, Try.ntmps11
  go_upto_region 4 with (first
    | (go_at_call 20; refine (isLocal_any _ _).mono ?_; rintro e w' ⟨rfl, hw⟩; obtain rfl := hw.symm; rw [ht])
    | (go_at_call 21; refine (HH.out _).mono ?_; rintro e w1 ⟨rfl, b1⟩; have X1 := Lib.hid (X.out.next b1); obtain ⟨a0, a1, a2, a3, a4, a5, a6, a7, a8, a9, a10, a11, a12, a13, a14⟩ := cells15 (X1.out.at 1 rfl); clear b1)
    | (go_at_call 16; refine (O.out _ X1.out.b).mono ?_; rintro e w' ⟨rfl, hw⟩; obtain rfl := hw))
  obtain ⟨f0, f1, f2, f3, f4, f5, f6, f7, f8, f9, f10, f11, f12, f13, f14⟩ := frozen15 (X1.out.at 1 rfl)
  go_upto_region 9 with (fail)
  clear f0 f1 f2 f3 f4 f5 f6 f7 f8 f9 f10 f11 f12 f13 f14
  obtain ⟨w3, hw3⟩ : ∃ w3, ((((((((((((((w1.setCell ⟨g, 1, none⟩ (.int .i64 t)).setCell ⟨g, 2, none⟩ (.int .u32 0)).setCell ⟨g, 3, none⟩ (.int .i64 0)).setCell ⟨g, 4, none⟩ (.int .i64 0)).setCell ⟨g, 5, none⟩ (.int .i64 0)).setCell ⟨g, 6, none⟩ (.int .i64 0)).setCell ⟨g, 7, none⟩ (.int .i64 0)).setCell ⟨g, 8, none⟩ (.int .i64 0)).setCell ⟨g, 9, none⟩ (.int .i64 0)).setCell ⟨g, 10, none⟩ (.int .i64 0)).setCell ⟨g, 11, none⟩ (.int .i64 0)).setCell ⟨g, 12, none⟩ (.int .i64 0)).setCell ⟨g, 13, none⟩ (.int .i64 0)).setCell ⟨g, 14, none⟩ (.int .i64 0)) = w3 := ⟨_, rfl⟩
  have Y : w3.heap[g]? = some (pbx d t s Z Z) := by
    rw [hs, hZ, ← hw3]
    exact put14 (X1.out.at 1 rfl) _ _ _ _ _ _ _ _ _ _ _ _ _ _ 
  have K3 := Lib.hid (show Kept g w1 w3 by rw [← hw3]; exact keep14 w1 g _ _ _ _ _ _ _ _ _ _ _ _ _ _ )
  have Y5 : w3.heap[w.heap.size]? = some (cb k f y c l) := (K3.out.block _ (by have := GL.out; omega) (lt_of_heap (X1.out.at 0 rfl))).trans (X1.out.at 0 rfl)
  rw [hw3]
  have X3 := Lib.hid (show Stay w3 [(w.heap.size, cb k f y c l), (g, pbx d t s Z Z)] w3 from ((Stay.start w3).add Y).add Y5)
  clear hw3 Y Y5
  have HS := Lib.hid hs
  have HZ := Lib.hid hZ
  clear hs hZ
  clear a0 a1 a2 a3 a4 a5 a6 a7 a8 a9 a10 a11 a12 a13 a14 d0 d1 d2 d3 d4
  obtain ⟨a0, a1, a2, a3, a4, a5, a6, a7, a8, a9, a10, a11, a12, a13, a14⟩ := cells15 (X3.out.at 1 rfl)
  obtain ⟨d0, d1, d2, d3, d4⟩ := FrameW.cells5 (X3.out.at 0 rfl)
  have kp : Hid (Kept g w w3) := Lib.hid ((Kept.of X1.out.b).trans K3.out)
  apply wp_some (S := fun w' => w'.heap[g]? = some (pbx d t (s ||| only (f : Int)) (upd Z f 0) (upd Z f y)) ∧ Kept g w w')
  case h =>
    refine wp_region_noPanic ?_
    go_region_law (first
      | (go_at_call 24; refine (WI.out _).mono ?_; rintro e w8 ⟨rfl, b8⟩; have h8 := row_below b8 (X3.out.at 1 rfl); obtain ⟨p0, p1, p2, p3, p4, p5, p6, p7, p8, p9, p10, p11, p12, p13, p14⟩ := cells15 h8; obtain ⟨f0, f1, f2, f3, f4, f5, f6, f7, f8, f9, f10, f11, f12, f13, f14⟩ := frozen15 h8; have H8 := Lib.hid h8; have B8 := Lib.hid b8; clear h8 b8)
      | (go_simp; go_at_call 24; refine (WI.out _).mono ?_; rintro e w8 ⟨rfl, b8⟩; have h8 := row_below b8 (X3.out.at 1 rfl); obtain ⟨p0, p1, p2, p3, p4, p5, p6, p7, p8, p9, p10, p11, p12, p13, p14⟩ := cells15 h8; obtain ⟨f0, f1, f2, f3, f4, f5, f6, f7, f8, f9, f10, f11, f12, f13, f14⟩ := frozen15 h8; have H8 := Lib.hid h8; have B8 := Lib.hid b8; clear h8 b8))
    all_goals exact NoPanic.normal ⟨rfl, rfl, put14 H8.out _ _ _ _ _ _ _ _ _ _ _ _ _ _ , (kp.out.trans (Kept.of (show Below w3.heap.size w3 _ from ⟨B8.out.os, B8.out.tape, B8.out.output, B8.out.size, B8.out.block⟩))).trans (keep14 _ g _ _ _ _ _ _ _ _ _ _ _ _ _ _ )⟩
  case hm =>
  rintro w9 ⟨h9, k9⟩
  have H9 := Lib.hid h9
  have K9 := Lib.hid k9
  clear a0 a1 a2 a3 a4 a5 a6 a7 a8 a9 a10 a11 a12 a13 a14 d0 d1 d2 d3 d4 h9 k9
  go_wp2_with (go_at_call 22; refine (E2.out _ H9.out).mono ?_; rintro e w10 ⟨rfl, b10⟩; have B10 := Lib.hid b10; clear b10)
  go_ret2
  have h10 := row_below B10.out H9.out
  rw [HS.out, HZ.out] at h10
  exact ⟨rfl, h10, K9.out.trans (Kept.of B10.out)⟩
end Go.Proofs.Ytpjaijibkjmgiaa.CompW
