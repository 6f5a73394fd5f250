/- The landed port: New, Peek. -/
import Derived.Test.YtpliidkfllacpaaPortD
import Derived.Test.YtpliidkfllacpaaPortJ
namespace Go.Proofs.Ytpliidkfllacpaa.PortW
open Go.RowKit Shell
theorem results_datb {fn : Func} {p u : Tmp} (h : fn.results = #[.cell p 30, .tmp u]) (tmps : Array Value) (w : World) (g : Nat) (t : TypeId) (x1 x2 x3 x4 x5 : Value) (fr : Nat × Nat)
    (hp : tmps.getD p undef = .pointer (some ⟨g, 0, none⟩)) (hg : w.heap[g]? = some (.cells #[x1, x2, x3, x4, x5] t fr)) :
    (results fn tmps).run Try.prog w = .ok (.tuple #[.agg #[x1, x2, x3, x4, x5], tmps.getD u undef]) w := by
  have hp' : tmps[p]?.getD undef = .pointer (some ⟨g, 0, none⟩) := by simpa using hp
  simp [results, h, hp', asAddr, run_loadVar_row w g t 30 #[x1, x2, x3, x4, x5] fr _ hg Try.underlying30 rfl (by kernel_rfl)]
theorem ret_datb {fn : Func} {R : Ending → World → Prop} {p u : Tmp} (h : fn.results = #[.cell p 30, .tmp u]) {tmps : Array Value} {w : World} {g : Nat} {x1 x2 x3 x4 x5 : Value} {t : TypeId} {fr : Nat × Nat}
    (hp : tmps.getD p undef = .pointer (some ⟨g, 0, none⟩)) (hg : w.heap[g]? = some (.cells #[x1, x2, x3, x4, x5] t fr)) (hR : R (.returned (.tuple #[.agg #[x1, x2, x3, x4, x5], tmps.getD u undef])) w) :
    bodyPost Try.prog fn R .ret { tmps := tmps, defers := [] } w :=
  bodyPost_ret (results_datb h tmps w g t x1 x2 x3 x4 x5 fr hp hg) rfl hR
theorem frozen5 {w : World} {j : Nat} {x y z u v : Value} {t : TypeId} (h : w.heap[j]? = some (.cells #[x, y, z, u, v] t (0, 0))) : w.frozen? ⟨j, 0, none⟩ = false ∧ w.frozen? ⟨j, 1, none⟩ = false ∧ w.frozen? ⟨j, 2, none⟩ = false ∧ w.frozen? ⟨j, 3, none⟩ = false ∧ w.frozen? ⟨j, 4, none⟩ = false :=
  ⟨frozen_of_row w j 0 _ _ h, frozen_of_row w j 1 _ _ h, frozen_of_row w j 2 _ _ h, frozen_of_row w j 3 _ _ h, frozen_of_row w j 4 _ _ h⟩
/-- Five cells stored into a box. -/
abbrev st5 (w : World) (k : Nat) (x y z u v : Value) : World := ((((w.setCell ⟨k, 0, none⟩ x).setCell ⟨k, 1, none⟩ y).setCell ⟨k, 2, none⟩ z).setCell ⟨k, 3, none⟩ u).setCell ⟨k, 4, none⟩ v
theorem put5 {w : World} {k : Nat} {a b c d e : Value} {t : TypeId} (h : w.heap[k]? = some (.cells #[a, b, c, d, e] t (0, 0))) (x y z u v : Value) : (st5 w k x y z u v).heap[k]? = some (.cells #[x, y, z, u, v] t (0, 0)) :=
  heap_setCell_same _ k 4 _ _ _ (heap_setCell_same _ k 3 _ _ _ (heap_setCell_same _ k 2 _ _ _ (heap_setCell_same _ k 1 _ _ _ (heap_setCell_same w k 0 _ _ _ h))))
theorem kept5 (w : World) (k : Nat) (x y z u v : Value) : Kept k w (st5 w k x y z u v) := ((kept3 w k x y z).trans (kept1 _ k 3 u)).trans (kept1 _ k 4 v)
theorem ls_cons {W : World} {lo : Nat} {v : Value} {x : Da} {L : List Da} (h : LS FD W lo v (x :: L)) : ∃ b off cap, v = .slice (some ⟨b, off, none⟩) (L.length + 1) cap ∧ lo ≤ b ∧ LA FD W b off cap (x :: L) := by
  rcases h with ⟨_, h⟩ | ⟨b, off, cap, h1, h2, h3⟩
  · cases h
  · exact ⟨b, off, cap, h1, h2, h3⟩
/-- The head's cells. -/
theorem la_head {W : World} {b off cap : Nat} {x : Da} {L : List Da} (h : LA FD W b off cap (x :: L)) : W.cell? ⟨b, off, none⟩ = some (.int .i64 x.c) ∧ W.cell? ⟨b, off + 1, none⟩ = some (.int .i64 x.l) ∧ W.cell? ⟨b, off + 2, none⟩ = some (.int .i64 x.n) ∧ W.cell? ⟨b, off + 3, none⟩ = some (.string x.p) ∧ W.cell? ⟨b, off + 4, none⟩ = some (.int .i64 x.s) :=
  ⟨h.holds 0 _ rfl, h.holds 1 _ rfl, h.holds 2 _ rfl, h.holds 3 _ rfl, h.holds 4 _ rfl⟩
theorem new_bad (n : Int) (W : World) (h : ¬ (1 ≤ n ∧ n ≤ 64)) : Calls Try.prog 8 #[.int .i64 n] W fun r W' => r = .returned (.tuple #[.pointer none, .int .i64 1]) ∧ Below W.heap.size W W' := by
  by_cases h1 : n < 1
  · clear h
    go_enter Try.func8, Try.ntmps8
    go_wp2
    go_ret2
    exact ⟨rfl, Below.refl _ _⟩
  · have h2 : 64 < n := by omega
    clear h
    go_enter Try.func8, Try.ntmps8
    go_wp2
    go_ret2
    exact ⟨rfl, Below.refl _ _⟩
theorem new_good (n : Nat) (W : World) (h0 : 1 ≤ n) (h1 : n ≤ 64) : Calls Try.prog 8 #[.int .i64 (n : Int)] W fun r W' => r = .returned (.tuple #[.pointer (some ⟨W.heap.size, 0, none⟩), .int .i64 0]) ∧ W' = W.alloc (pbx n 0 (.slice none 0 0) (.slice none 0 0)) := by
  have q1 : ¬ (n : Int) < 1 := by omega
  have q2 : ¬ (64 : Int) < (n : Int) := by omega
  clear h0 h1
  go_enter Try.func8, Try.ntmps8
  go_wp2
  go_ret2
  exact ⟨rfl, rfl⟩
set_option maxHeartbeats 2000000 in
theorem peek_n (W : World) : Calls Try.prog 12 #[.pointer none] W fun v W' => v = .returned (.tuple #[dv zD, .bool false]) ∧ Below W.heap.size W W' := by
  have X0 := Lib.hid (heap_alloc_new W (dbx zD))
  have B0 := Lib.hid (al (Below.refl W.heap.size W) (dbx zD))
  go_enter Try.func12, Try.ntmps12
  go_wp2_with fail
  refine (next_n _).mono ?_
  rintro v w1 ⟨rfl, b1⟩
  have X1 := Lib.hid (row_below b1 X0.out)
  have B1 := Lib.hid (B0.out.trans (b1.mono B0.out.size))
  obtain ⟨c0, c1, c2, c3, c4⟩ := cells5 X1.out
  obtain ⟨f0, f1, f2, f3, f4⟩ := frozen5 X1.out
  clear b1
  go_wp2
  exact ret_datb rfl rfl (put5 X1.out _ _ _ _ _) ⟨rfl, ((kept5 _ _ _ _ _ _ _).below (Nat.le_refl _) B1.out.size |> B1.out.trans)⟩
section
variable {lo g m l : Nat} {r e : List Da} {vr ve : Value} {W : World}
set_option maxHeartbeats 2000000 in
theorem peek_m (h : PM lo g m r e l vr ve W) : Calls Try.prog 12 #[.pointer (some ⟨g, 0, none⟩)] W fun v W' => v = .returned (nxV r e) ∧ Below W.heap.size W W' := by
  have X0 := Lib.hid (heap_alloc_new W (dbx zD))
  have B0 := Lib.hid (al (Below.refl W.heap.size W) (dbx zD))
  have HM := Lib.hid (h.below B0.out)
  rcases r with _ | ⟨x, r⟩
  · rcases e with _ | ⟨y, e⟩
    · clear h
      go_enter Try.func12, Try.ntmps12
      go_wp2_with fail
      refine (next_m HM.out).mono ?_
      rintro v w1 ⟨hv, b1⟩
      obtain rfl : v = .returned (.pointer none) := hv
      have X1 := Lib.hid (row_below b1 X0.out)
      have B1 := Lib.hid (B0.out.trans (b1.mono B0.out.size))
      obtain ⟨c0, c1, c2, c3, c4⟩ := cells5 X1.out
      obtain ⟨f0, f1, f2, f3, f4⟩ := frozen5 X1.out
      clear b1
      go_wp2
      exact ret_datb rfl rfl (put5 X1.out _ _ _ _ _) ⟨rfl, ((kept5 _ _ _ _ _ _ _).below (Nat.le_refl _) B1.out.size |> B1.out.trans)⟩
    · obtain ⟨b, off, cap, rfl, -, -⟩ := ls_cons h.ef
      clear h
      go_enter Try.func12, Try.ntmps12
      go_wp2_with fail
      refine (next_m HM.out).mono ?_
      rintro v w1 ⟨hv, b1⟩
      obtain rfl : v = .returned (.pointer (some ⟨g, 3, none⟩)) := hv
      have X1 := Lib.hid (row_below b1 X0.out)
      have B1 := Lib.hid (B0.out.trans (b1.mono B0.out.size))
      have H1 := Lib.hid (HM.out.below b1)
      obtain ⟨b', off', cap', hh, -, hA⟩ := ls_cons H1.out.ef
      cases hh
      obtain ⟨k0, k1, k2, k3, k4⟩ := la_head hA
      obtain ⟨p0, p1, p2, p3⟩ := cells4 H1.out.b
      obtain ⟨c0, c1, c2, c3, c4⟩ := cells5 X1.out
      obtain ⟨f0, f1, f2, f3, f4⟩ := frozen5 X1.out
      clear b1 HM hA
      go_wp2
      exact ret_datb rfl rfl (put5 X1.out _ _ _ _ _) ⟨rfl, ((kept5 _ _ _ _ _ _ _).below (Nat.le_refl _) B1.out.size |> B1.out.trans)⟩
  · obtain ⟨b, off, cap, rfl, -, -⟩ := ls_cons h.ra
    clear h
    go_enter Try.func12, Try.ntmps12
    go_wp2_with fail
    refine (next_m HM.out).mono ?_
    rintro v w1 ⟨hv, b1⟩
    obtain rfl : v = .returned (.pointer (some ⟨g, 2, none⟩)) := hv
    have X1 := Lib.hid (row_below b1 X0.out)
    have B1 := Lib.hid (B0.out.trans (b1.mono B0.out.size))
    have H1 := Lib.hid (HM.out.below b1)
    obtain ⟨b', off', cap', hh, -, hA⟩ := ls_cons H1.out.ra
    cases hh
    obtain ⟨k0, k1, k2, k3, k4⟩ := la_head hA
    obtain ⟨p0, p1, p2, p3⟩ := cells4 H1.out.b
    obtain ⟨c0, c1, c2, c3, c4⟩ := cells5 X1.out
    obtain ⟨f0, f1, f2, f3, f4⟩ := frozen5 X1.out
    clear b1 HM hA
    go_wp2
    exact ret_datb rfl rfl (put5 X1.out _ _ _ _ _) ⟨rfl, ((kept5 _ _ _ _ _ _ _).below (Nat.le_refl _) B1.out.size |> B1.out.trans)⟩
end
end Go.Proofs.Ytpliidkfllacpaa.PortW
