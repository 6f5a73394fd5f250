/- Close. -/
import Derived.Test.YtpjaijibkjmgiaaCompF
namespace Go.Proofs.Ytpjaijibkjmgiaa.CompW
open Go.RowKit Shell
open CrewW (only has of has_any of_any mem mem_len memTo_range members_any)
abbrev rbx (p s y : Int) : Obj := .cells #[.int .i64 p, .int .u32 s, .int .i64 y] 39 (0, 0)
theorem ret_r {fn : Func} {R : Ending → World → Prop} {p u : Tmp} (h : fn.results = #[.cell p 39, .tmp u]) {tmps : Array Value} {w : World} {g : Nat} {x1 x2 x3 : Value} {t : TypeId} {fr : Nat × Nat}
    (hp : tmps.getD p undef = .pointer (some ⟨g, 0, none⟩)) (hg : w.heap[g]? = some (.cells #[x1, x2, x3] t fr)) (hR : R (.returned (.tuple #[.agg #[x1, x2, x3], tmps.getD u undef])) w) :
    bodyPost Try.prog fn R .ret { tmps := tmps, defers := [] } w :=
  bodyPost_ret (by
    have hp' : tmps[p]?.getD undef = .pointer (some ⟨g, 0, none⟩) := by simpa using hp
    simp [results, h, hp', asAddr, run_loadVar_row w g t 39 #[x1, x2, x3] fr _ hg Try.underlying39 rfl (by kernel_rfl)]) rfl hR
/-- What is turned beside g is a block of the call's own. -/
theorem kept_new {g q : Nat} {w w1 w2 : World} (h : Kept g w w1) (k : Kept q w1 w2) (hq : w.heap.size ≤ q) : Kept g w w2 :=
  ⟨k.os.trans h.os, k.tape.trans h.tape, k.output.trans h.output, Nat.le_trans h.size k.size, fun j hj hl => (k.block j (by omega) (Nat.lt_of_lt_of_le hl h.size)).trans (h.block j hj hl)⟩
/-- What Close tells where there is nothing. -/
abbrev noR : Value := .tuple #[.agg #[.int .i64 0, .int .u32 0, .int .i64 0], .bool false]
theorem close_nil (t : Int) (w : World) : Calls Try.prog 13 #[.pointer none, .int .i64 t] w fun e w' => e = .returned noR ∧ Below w.heap.size w w' := by
  have O := Lib.hid (fun W => open_nil W)
  have X := Lib.hid ((Stay.start w).alloc (rbx 0 0 0))
  obtain ⟨c0, c1, c2⟩ := cells3 (X.out.at 0 rfl)
  obtain ⟨f0, f1, f2⟩ := frozen3 (X.out.at 0 rfl)
  go_enter Try.func13, Try.ntmps13
  go_wp2_with (go_at_call 16; refine (O.out _).mono ?_; rintro e w' ⟨rfl, hw⟩; obtain rfl := hw)
  refine ret_r rfl rfl (heap_alloc_new _ _) ?_
  exact ⟨rfl, al (Below.refl _ _) _⟩
theorem close_none {w : World} {g : Nat} {d b : Int} {R C : Nat → Int} (h : w.heap[g]? = some (pbx d b 0 R C)) (t : Int) : Calls Try.prog 13 #[.pointer (some ⟨g, 0, none⟩), .int .i64 t] w fun e w' => e = .returned noR ∧ Below w.heap.size w w' := by
  have O := (fun W (hb : Below w.heap.size w W) => open_any (row_below hb h))
  rw [show decide ((0 : Nat) ≠ 0) = false by decide] at O
  have O := Lib.hid O
  have X := Lib.hid (((Stay.start w).add h).alloc (rbx 0 0 0))
  go_enter Try.func13, Try.ntmps13
  go_wp2_with (go_at_call 16; refine (O.out _ X.out.b).mono ?_; rintro e w' ⟨rfl, hw⟩; obtain rfl := hw.symm)
  refine ret_r rfl rfl (heap_alloc_new _ _) ?_
  exact ⟨rfl, al (Below.refl _ _) _⟩
theorem close_early {w : World} {g : Nat} {d b : Int} {s : Nat} {R C : Nat → Int} (h : w.heap[g]? = some (pbx d b s R C)) (hs : s ≠ 0) (hb0 : -1125899906842624 ≤ b ∧ b ≤ 1125899906842624) (hd0 : 0 ≤ d ∧ d ≤ 1048576) (t : Int) (ht : t < b + d) : Calls Try.prog 13 #[.pointer (some ⟨g, 0, none⟩), .int .i64 t] w fun e w' => e = .returned noR ∧ Below w.heap.size w w' := by
  have O := (fun W (hb : Below w.heap.size w W) => open_any (row_below hb h))
  rw [show decide (s ≠ 0) = true from decide_eq_true hs] at O
  have O := Lib.hid O
  have E := Lib.hid (fun W (hb : Below w.heap.size w W) => end_any (row_below hb h) hb0 hd0)
  have X := Lib.hid (((Stay.start w).add h).alloc (rbx 0 0 0))
  clear hs
  go_enter Try.func13, Try.ntmps13
  go_wp2_with (first
    | (go_at_call 16; refine (O.out _ X.out.b).mono ?_; rintro e w' ⟨rfl, hw⟩; obtain rfl := hw.symm)
    | (go_at_call 22; refine (E.out _ X.out.b).mono ?_; rintro e w1 ⟨rfl, b1⟩; have X1 := Lib.hid (X.out.next b1); obtain ⟨c0, c1, c2⟩ := cells3 (X1.out.at 0 rfl); obtain ⟨f0, f1, f2⟩ := frozen3 (X1.out.at 0 rfl); clear b1))
  refine ret_r rfl rfl (put3 (X1.out.at 0 rfl) _ _ _) ?_
  exact ⟨rfl, X1.out.b.trans ((kept3 _ w.heap.size _ _ _).below (Nat.le_refl _) X1.out.b.size)⟩
set_option maxHeartbeats 2000000 in
theorem close_ok {w : World} {g : Nat} {d b : Int} {s : Nat} {R C : Nat → Int} (h : w.heap[g]? = some (pbx d b s R C)) (hs : s ≠ 0) (hb0 : -1125899906842624 ≤ b ∧ b ≤ 1125899906842624) (hd0 : 0 ≤ d ∧ d ≤ 1048576) (t : Int) (ht : ¬ t < b + d) (p y : Int)
    (PT : ∀ W, Calls Try.prog 26 #[GV b s R C] W fun e w' => e = .returned (.int .i64 p) ∧ Below W.heap.size W w')
    (CY : ∀ W, Calls Try.prog 27 #[GV b s R C] W fun e w' => e = .returned (.int .i64 y) ∧ Below W.heap.size W w') :
    Calls Try.prog 13 #[.pointer (some ⟨g, 0, none⟩), .int .i64 t] w fun e w' => e = .returned (.tuple #[.agg #[.int .i64 p, .int .u32 (s : Int), .int .i64 y], .bool true]) ∧ w'.heap[g]? = some (pbx d 0 0 zero zero) ∧ Kept g w w' := by
  have O := (fun W (hb : Below w.heap.size w W) => open_any (row_below hb h))
  rw [show decide (s ≠ 0) = true from decide_eq_true hs] at O
  have O := Lib.hid O
  have E := Lib.hid (fun W (hb : Below w.heap.size w W) => end_any (row_below hb h) hb0 hd0)
  have X := Lib.hid (((Stay.start w).add h).alloc (rbx 0 0 0))
  unfold GV at PT CY
  have PT := Lib.hid PT
  have CY := Lib.hid CY
  have GL := Lib.hid (lt_of_heap h)
  clear hs
  go_enter Try.func13, Try.ntmps13
  go_upto_region 3 with (first
    | (go_at_call 16; refine (O.out _ X.out.b).mono ?_; rintro e w' ⟨rfl, hw⟩; obtain rfl := hw.symm)
    | (go_at_call 22; refine (E.out _ X.out.b).mono ?_; rintro e w1 ⟨rfl, b1⟩; have X1 := Lib.hid (X.out.next b1); clear b1))
  obtain ⟨a0, a1, a2, a3, a4, a5, a6, a7, a8, a9, a10, a11, a12, a13, a14⟩ := cells15 (X1.out.at 1 rfl)
  go_upto_region 4 with (fail)
  clear a0 a1 a2 a3 a4 a5 a6 a7 a8 a9 a10 a11 a12 a13 a14
  have X2 := Lib.hid (X1.out.alloc (gbx b s R C))
  generalize w1.alloc (gbx b s R C) = w2 at *
  generalize w1.heap.size = q at *
  obtain ⟨a0, a1, a2, a3, a4, a5, a6, a7, a8, a9, a10, a11, a12, a13, a14⟩ := cells15 (X2.out.at 2 rfl)
  obtain ⟨f0, f1, f2, f3, f4, f5, f6, f7, f8, f9, f10, f11, f12, f13, f14⟩ := frozen15 (X2.out.at 2 rfl)
  go_upto_region 5 with (fail)
  obtain ⟨w3, hw3⟩ : ∃ w3, ((((((((((((((w2.setCell ⟨g, 1, none⟩ (.int .i64 0)).setCell ⟨g, 2, none⟩ (.int .u32 0)).setCell ⟨g, 3, none⟩ (.int .i64 0)).setCell ⟨g, 4, none⟩ (.int .i64 0)).setCell ⟨g, 5, none⟩ (.int .i64 0)).setCell ⟨g, 6, none⟩ (.int .i64 0)).setCell ⟨g, 7, none⟩ (.int .i64 0)).setCell ⟨g, 8, none⟩ (.int .i64 0)).setCell ⟨g, 9, none⟩ (.int .i64 0)).setCell ⟨g, 10, none⟩ (.int .i64 0)).setCell ⟨g, 11, none⟩ (.int .i64 0)).setCell ⟨g, 12, none⟩ (.int .i64 0)).setCell ⟨g, 13, none⟩ (.int .i64 0)).setCell ⟨g, 14, none⟩ (.int .i64 0)) = w3 := ⟨_, rfl⟩
  have Y : w3.heap[g]? = some (pbx d 0 0 zero zero) := by
    rw [← hw3]
    exact put14 (X2.out.at 2 rfl) _ _ _ _ _ _ _ _ _ _ _ _ _ _ 
  have K3 := Lib.hid (show Kept g w2 w3 by rw [← hw3]; exact keep14 w2 g _ _ _ _ _ _ _ _ _ _ _ _ _ _ )
  have gq : ¬ q = g := by
    intro e
    have h1 := X2.out.at 0 rfl
    rw [e] at h1
    have h2 := h1.symm.trans (X2.out.at 2 rfl)
    simp at h2
  have Y1 : w3.heap[q]? = some (gbx b s R C) := (K3.out.block _ gq (lt_of_heap (X2.out.at 0 rfl))).trans (X2.out.at 0 rfl)
  have Y2 : w3.heap[w.heap.size]? = some (rbx 0 0 0) := (K3.out.block _ (by have := GL.out; omega) (lt_of_heap (X2.out.at 1 rfl))).trans (X2.out.at 1 rfl)
  rw [hw3]
  have X3 := Lib.hid (show Stay w3 [(q, gbx b s R C), (w.heap.size, rbx 0 0 0), (g, pbx d 0 0 zero zero)] w3 from (((Stay.start w3).add Y).add Y2).add Y1)
  have K0 := Lib.hid ((Kept.of X2.out.b).trans K3.out : Kept g w w3)
  clear a0 a1 a2 a3 a4 a5 a6 a7 a8 a9 a10 a11 a12 a13 a14 f0 f1 f2 f3 f4 f5 f6 f7 f8 f9 f10 f11 f12 f13 f14
  clear hw3 Y Y1 Y2 gq
  obtain ⟨a0, a1, a2, a3, a4, a5, a6, a7, a8, a9, a10, a11, a12, a13⟩ := cells14 (X3.out.at 0 rfl)
  apply wp_some (S := fun w' => w'.heap[w.heap.size]? = some (rbx p s y) ∧ w'.heap[g]? = some (pbx d 0 0 zero zero) ∧ Kept g w w')
  case h =>
    refine wp_region_noPanic ?_
    go_region_law (first
      | (go_at_call 26; refine (PT.out _).mono ?_; rintro e w5 ⟨rfl, b5⟩; have X5 := Lib.hid (X3.out.drew.next b5); obtain ⟨p0, p1, p2, p3, p4, p5, p6, p7, p8, p9, p10, p11, p12, p13⟩ := cells14 (X5.out.at 0 rfl); clear b5)
      | (go_at_call 27; refine (CY.out _).mono ?_; rintro e w6 ⟨rfl, b6⟩; have X6 := Lib.hid (X5.out.next b6); obtain ⟨q0, q1, q2, q3, q4, q5, q6, q7, q8, q9, q10, q11, q12, q13⟩ := cells14 (X6.out.at 0 rfl); obtain ⟨c0, c1, c2⟩ := cells3 (X6.out.at 1 rfl); obtain ⟨f0, f1, f2⟩ := frozen3 (X6.out.at 1 rfl); clear b6)
      | (go_simp; go_at_call 26; refine (PT.out _).mono ?_; rintro e w5 ⟨rfl, b5⟩; have X5 := Lib.hid (X3.out.drew.next b5); obtain ⟨p0, p1, p2, p3, p4, p5, p6, p7, p8, p9, p10, p11, p12, p13⟩ := cells14 (X5.out.at 0 rfl); clear b5)
      | (go_simp; go_at_call 27; refine (CY.out _).mono ?_; rintro e w6 ⟨rfl, b6⟩; have X6 := Lib.hid (X5.out.next b6); obtain ⟨q0, q1, q2, q3, q4, q5, q6, q7, q8, q9, q10, q11, q12, q13⟩ := cells14 (X6.out.at 0 rfl); obtain ⟨c0, c1, c2⟩ := cells3 (X6.out.at 1 rfl); obtain ⟨f0, f1, f2⟩ := frozen3 (X6.out.at 1 rfl); clear b6))
    all_goals refine NoPanic.normal ⟨rfl, rfl, put3 (X6.out.at 1 rfl) _ _ _, ((kept3 _ w.heap.size _ _ _).block g (by have := GL.out; omega) (lt_of_heap (X6.out.at 2 rfl))).trans (X6.out.at 2 rfl), ?_⟩
    all_goals exact kept_new (K0.out.trans (Kept.of X6.out.b)) (kept3 _ w.heap.size _ _ _) (Nat.le_refl _)
  case hm =>
  rintro w9 ⟨h9, h10, k9⟩
  have H9 := Lib.hid h9
  have H10 := Lib.hid h10
  have K9 := Lib.hid k9
  clear a0 a1 a2 a3 a4 a5 a6 a7 a8 a9 a10 a11 a12 a13 h9 h10 k9
  go_wp2
  refine ret_r rfl rfl H9.out ?_
  exact ⟨rfl, H10.out, K9.out⟩
end Go.Proofs.Ytpjaijibkjmgiaa.CompW
