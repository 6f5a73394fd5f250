/- The document's own Send; Clear. -/
import Derived.Test.YtkeigfkcoleboaaWireB
import Derived.Deep.RegionWith
namespace Go.Proofs.Ytkeigfkcoleboaa.WireW
open Go.RowKit FrameW Shell
theorem results_wire {fn : Func} {p u v : Tmp} (h : fn.results = #[.cell p 29, .tmp u, .tmp v]) (tmps : Array Value) (w : World) (g : Nat) (t : TypeId) (x y z : Value) (fr : Nat × Nat)
    (hp : tmps.getD p undef = .pointer (some ⟨g, 0, none⟩)) (hg : w.heap[g]? = some (.cells #[x, y, z] t fr)) :
    (results fn tmps).run Try.prog w = .ok (.tuple #[.agg #[x, y, z], tmps.getD u undef, tmps.getD v undef]) w := by
  have hp' : tmps[p]?.getD undef = .pointer (some ⟨g, 0, none⟩) := by simpa using hp
  simp [results, h, hp', asAddr, run_loadVar_row w g t 29 #[x, y, z] fr _ hg Try.underlying29 rfl (by kernel_rfl)]
theorem ret_wire {fn : Func} {R : Ending → World → Prop} {p u v : Tmp} (h : fn.results = #[.cell p 29, .tmp u, .tmp v]) {tmps : Array Value} {w : World} {g : Nat} {x y z : Value} {t : TypeId} {fr : Nat × Nat}
    (hp : tmps.getD p undef = .pointer (some ⟨g, 0, none⟩)) (hg : w.heap[g]? = some (.cells #[x, y, z] t fr)) (hR : R (.returned (.tuple #[.agg #[x, y, z], tmps.getD u undef, tmps.getD v undef])) w) :
    bodyPost Try.prog fn R .ret { tmps := tmps, defers := [] } w :=
  bodyPost_ret (results_wire h tmps w g t x y z fr hp hg) rfl hR
theorem of_two {w w1 : World} {o1 o2 : Obj} (b1 : Below ((w.alloc o1).alloc o2).heap.size ((w.alloc o1).alloc o2) w1) : Below w.heap.size w w1 := (al (al (Below.refl w.heap.size w) _) _).trans (b1.mono (by simp; omega))
theorem set3_below {w w1 : World} {x y z : Value} (hb : Below w.heap.size w w1) : Below w.heap.size w (((w1.setCell ⟨w.heap.size + 1, 0, none⟩ x).setCell ⟨w.heap.size + 1, 1, none⟩ y).setCell ⟨w.heap.size + 1, 2, none⟩ z) :=
  ((hb.setCell (by simp) _).setCell (by simp) _).setCell (by simp) _
set_option maxRecDepth 100000 in
theorem refSend_no (d b o t n : Int) (w : World) (z : Int) (hz : sndE b o t n = z) (h0 : z ≠ 0) :
    Calls Try.prog 12 #[RV d b o, .int .i64 t, .int .i64 n] w fun e w' => e = .returned (.tuple #[RV d b o, .int .i64 0, .int .i64 z]) ∧ Below w.heap.size w w' := by
  unfold sndE okS inn at hz
  cases h1 : okT t with
  | false =>
    rw [h1] at hz
    simp only [Bool.false_and, Bool.false_eq_true, if_false] at hz
    subst hz
    go_enter Try.func12, Try.ntmps12
    go_wp2_with (first
      | (go_at_call 14; refine (real_any _ _).mono ?_; rintro e w' ⟨rfl, rfl⟩; rw [h1]))
    exact ret_wire rfl rfl (heap_at (by simp) _) ⟨rfl, al (al (Below.refl _ _) _) _⟩
  | true =>
    rw [h1, Bool.true_and] at hz
    by_cases n1 : n < 64
    · rw [decide_eq_false (by omega), Bool.false_and, if_neg (by simp)] at hz
      subst hz
      go_enter Try.func12, Try.ntmps12
      go_wp2_with (first
        | (go_at_call 14; refine (real_any _ _).mono ?_; rintro e w' ⟨rfl, rfl⟩; rw [h1]))
      exact ret_wire rfl rfl (heap_at (by simp) _) ⟨rfl, al (al (Below.refl _ _) _) _⟩
    · by_cases n2 : 1518 < n
      · rw [decide_eq_true (by omega), decide_eq_false (by omega), Bool.and_false, if_neg (by simp)] at hz
        subst hz
        go_enter Try.func12, Try.ntmps12
        go_wp2_with (first
          | (go_at_call 14; refine (real_any _ _).mono ?_; rintro e w' ⟨rfl, rfl⟩; rw [h1]))
        exact ret_wire rfl rfl (heap_at (by simp) _) ⟨rfl, al (al (Below.refl _ _) _) _⟩
      · rw [decide_eq_true (by omega), decide_eq_true (by omega), Bool.and_true, if_pos rfl] at hz
        cases h3 : bsy b o t with
        | true =>
          rw [h3, if_pos rfl] at hz
          subst hz
          go_enter Try.func12, Try.ntmps12
          go_wp2_with (first
            | (go_at_call 14; refine (real_any _ _).mono ?_; rintro e w' ⟨rfl, rfl⟩; rw [h1])
            | (go_at_call 10; refine (refBusy_any d b o t _).mono ?_; rintro e w1 ⟨rfl, b1⟩; rw [h3]; have c1 : w1.heap[w.heap.size + 1]? = some (.cells #[.int .i64 0, .int .i64 0, .int .i64 0] 29) := row_below b1 (heap_at (by simp) _); have c0 : w1.heap[w.heap.size]? = some (.cells #[.int .i64 d, .int .i64 b, .int .i64 o] 29) := row_below b1 ((heap_alloc_old _ _ (by simp)).trans (heap_alloc_new _ _)); have K0 := Lib.hid c0; have K1 := Lib.hid c1; obtain ⟨g0, g1, g2⟩ := cells3 c0; obtain ⟨m0, m1, m2⟩ := cells3 c1; obtain ⟨f0, f1, f2⟩ := frozen3 c1; clear c0 c1))
          exact ret_wire rfl rfl (heap_setCell_same _ _ 2 _ _ _ (heap_setCell_same _ _ 1 _ _ _ (heap_setCell_same w1 _ 0 _ _ _ K1.out))) ⟨rfl, set3_below (of_two b1)⟩
        | false =>
          rw [h3] at hz
          simp only [Bool.false_eq_true, if_false] at hz
          have h4 : t < b := by
            by_cases h4 : t < b
            · exact h4
            · rw [if_neg h4] at hz
              omega
          rw [if_pos h4] at hz
          subst hz
          go_enter Try.func12, Try.ntmps12
          go_wp2_with (first
            | (go_at_call 14; refine (real_any _ _).mono ?_; rintro e w' ⟨rfl, rfl⟩; rw [h1])
            | (go_at_call 10; refine (refBusy_any d b o t _).mono ?_; rintro e w1 ⟨rfl, b1⟩; rw [h3]; have c1 : w1.heap[w.heap.size + 1]? = some (.cells #[.int .i64 0, .int .i64 0, .int .i64 0] 29) := row_below b1 (heap_at (by simp) _); have c0 : w1.heap[w.heap.size]? = some (.cells #[.int .i64 d, .int .i64 b, .int .i64 o] 29) := row_below b1 ((heap_alloc_old _ _ (by simp)).trans (heap_alloc_new _ _)); have K0 := Lib.hid c0; have K1 := Lib.hid c1; obtain ⟨g0, g1, g2⟩ := cells3 c0; obtain ⟨m0, m1, m2⟩ := cells3 c1; obtain ⟨f0, f1, f2⟩ := frozen3 c1; clear c0 c1))
          exact ret_wire rfl rfl (heap_setCell_same _ _ 2 _ _ _ (heap_setCell_same _ _ 1 _ _ _ (heap_setCell_same w1 _ 0 _ _ _ K1.out))) ⟨rfl, set3_below (of_two b1)⟩
set_option maxRecDepth 100000 in
theorem refSend_ok (d b o t n : Int) (w : World) (hd : okD d = true) (hz : sndE b o t n = 0) :
    Calls Try.prog 12 #[RV d b o, .int .i64 t, .int .i64 n] w fun e w' => e = .returned (.tuple #[RV d t (t + tim n), .int .i64 (t + tim n + d), .int .i64 0]) ∧ Below w.heap.size w w' := by
  obtain ⟨q1, q2, h3, h4⟩ := snd_zero hz
  have h1 := okT_iff.2 q1
  have n1 := q2.1
  have n2 := q2.2
  have hd' := okD_iff.1 hd
  have ht := tim_bounds n
  have E1 := Lib.hid (show IntKind.i64.wrap (t + tim n) = t + tim n by rw [IntKind.wrap_i64]; omega)
  have E2 := Lib.hid (show wrap64 (t + tim n + d) = t + tim n + d by unfold wrap64; omega)
  clear hz q1 q2 hd hd' ht
  go_enter Try.func12, Try.ntmps12
  go_wp2_with (first
    | (go_at_call 14; refine (real_any _ _).mono ?_; rintro e w' ⟨rfl, rfl⟩; rw [h1]))
  refine (refBusy_any d b o t _).mono ?_
  rintro e w1 ⟨rfl, b1⟩
  rw [h3]
  have c1 : w1.heap[w.heap.size + 1]? = some (.cells #[.int .i64 0, .int .i64 0, .int .i64 0] 29) := row_below b1 (heap_at (by simp) _)
  have c0 : w1.heap[w.heap.size]? = some (.cells #[.int .i64 d, .int .i64 b, .int .i64 o] 29) := row_below b1 ((heap_alloc_old _ _ (by simp)).trans (heap_alloc_new _ _))
  have K0 := Lib.hid c0
  have K1 := Lib.hid c1
  obtain ⟨g0, g1, g2⟩ := cells3 c0
  obtain ⟨m0, m1, m2⟩ := cells3 c1
  obtain ⟨f0, f1, f2⟩ := frozen3 c1
  clear c0 c1
  go_wp2_with fail
  apply wp_one
  case h =>
    go_region_held3 (fun w' => w'.cell? ⟨w.heap.size, 0, none⟩ = some (.int .i64 d)) (first | exact g0 | exact cell_keep g0 (al (Below.refl _ _) _).drew) (first | (go_at_call 22; (with_reducible refine (refTime_any _ _).mono ?_); rintro e w' ⟨rfl, hw⟩; obtain rfl := hw.symm))
    all_goals exact ⟨rfl, rfl, rfl⟩
  case hm =>
    rw [E1.out]
    have bw := (al (Below.refl w1.heap.size w1) (.cells #[.int .i64 d, .int .i64 t, .int .i64 (t + tim n)] 29)).drew
    have k0 := row_below bw K0.out
    have k1 := Lib.hid (row_below bw K1.out)
    have k2 : (w1.alloc (.cells #[.int .i64 d, .int .i64 t, .int .i64 (t + tim n)] 29)).drew.heap[w1.heap.size]? = some (.cells #[.int .i64 d, .int .i64 t, .int .i64 (t + tim n)] 29) := heap_alloc_new _ _
    have B := Lib.hid ((of_two b1).trans (bw.mono (of_two b1).size))
    clear g0 g1 g2 m0 m1 m2 f0 f1 f2
    obtain ⟨g0, g1, g2⟩ := cells3 k0
    obtain ⟨m0, m1, m2⟩ := cells3 k1.out
    obtain ⟨l0, l1, l2⟩ := cells3 k2
    obtain ⟨f0, f1, f2⟩ := frozen3 k1.out
    have Q := kept3 (w1.alloc (.cells #[.int .i64 d, .int .i64 t, .int .i64 (t + tim n)] 29)).drew (w.heap.size + 1) (.int .i64 d) (.int .i64 t) (.int .i64 (t + tim n))
    obtain ⟨y0, -, -⟩ := cells3 ((Q.block w.heap.size (by omega) (lt_of_heap k0)).trans k0)
    obtain ⟨z0, z1, z2⟩ := cells3 ((Q.block w1.heap.size (by have := lt_of_heap K1.out; omega) (lt_of_heap k2)).trans k2)
    have k3 := Lib.hid (put3 k1.out (.int .i64 d) (.int .i64 t) (.int .i64 (t + tim n)))
    clear bw k0 k2 K0 K1 b1 Q g1 g2
    generalize (w1.alloc (Obj.cells #[.int .i64 d, .int .i64 t, .int .i64 (t + tim n)] 29)).drew = W1 at *
    go_wp2
    go_region
    go_wp2

    exact ret_wire rfl rfl k3.out ⟨by show Ending.returned (.tuple #[RV d t (t + tim n), .int .i64 (wrap64 (t + tim n + d)), .int .i64 0]) = _; rw [E2.out], (set3_below B.out).drew⟩
end Go.Proofs.Ytkeigfkcoleboaa.WireW
