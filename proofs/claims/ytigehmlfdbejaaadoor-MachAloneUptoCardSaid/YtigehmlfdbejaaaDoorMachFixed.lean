/- The chapter's examples; what the laws' own small functions tell. -/
import Derived.Test.YtigehmlfdbejaaaDoorMachS
import Derived.Test.YtigehmlfdbejaaaDoorMachD
namespace Go.Proofs.YtigehmlfdbejaaaDoor.MachW
open Go.RowKit Shell
open CrewW (Tz only u32_bound)
abbrev v4 (s c m x : Int) : Value := .agg #[.int .i64 s, .int .u32 c, .int .i64 m, .int .i64 x]
abbrev o4 (s c m x : Int) : Obj := .cells #[.int .i64 s, .int .u32 c, .int .i64 m, .int .i64 x] 36 (0, 0)
abbrev v2 (k e : Int) : Value := .agg #[.int .i64 k, .int .u32 e]
theorem step_lit (h s : Int) (c : Nat) (m x k : Int) (e : Nat) (c' e' : Int) (s1 : Int) (c1 : Int) (m1 x1 d1 : Int) (n1 : Nat) (w : World) (hT : Tz w) (hc : c' = (c : Int)) (he : e' = (e : Int)) (hc2 : c < 4294967296) (he2 : e < 4294967296) (hn : c1 = (n1 : Int)) (hr : stp h ⟨s, c, m, x⟩ k e = (⟨s1, n1, m1, x1⟩, d1)) :
    Calls Tryd.prog 16 #[.int .i64 h, v4 s c' m x, v2 k e'] w fun r w' => r = .returned (.tuple #[v4 s1 c1 m1 x1, .int .i64 d1]) ∧ Below w.heap.size w w' := by
  subst hc he hn
  have := step_any h ⟨s, c, m, x⟩ k e w he2 hc2 hT
  rw [hr] at this
  exact this
theorem step_1 (w : World) (hT : Tz w) : Calls Tryd.prog 16 #[.int .i64 0, v4 1 0 0 0, v2 1 0] w fun r w' => r = .returned (.tuple #[v4 2 0 0 0, .int .i64 1]) ∧ Below w.heap.size w w' :=
  step_lit 0 1 0 0 0 1 0 0 0 2 0 0 0 1 0 w hT rfl rfl (by decide) (by decide) rfl (by kernel_rfl)
theorem step_2 (w : World) (hT : Tz w) : Calls Tryd.prog 16 #[.int .i64 0, v4 2 0 0 1, v2 3 0] w fun r w' => r = .returned (.tuple #[v4 3 1 0 0, .int .i64 2]) ∧ Below w.heap.size w w' :=
  step_lit 0 2 0 0 1 3 0 0 0 3 1 0 0 2 1 w hT rfl rfl (by decide) (by decide) rfl (by kernel_rfl)
theorem step_3 (w : World) (hT : Tz w) : Calls Tryd.prog 16 #[.int .i64 2, v4 3 4 0 0, v2 4 3] w fun r w' => r = .returned (.tuple #[v4 2 0 0 0, .int .i64 4]) ∧ Below w.heap.size w w' :=
  step_lit 2 3 4 0 0 4 3 4 3 2 0 0 0 4 0 w hT rfl rfl (by decide) (by decide) rfl (by kernel_rfl)
theorem step_4 (w : World) (hT : Tz w) : Calls Tryd.prog 16 #[.int .i64 2, v4 3 4 0 0, v2 4 8] w fun r w' => r = .returned (.tuple #[v4 3 4 0 0, .int .i64 0]) ∧ Below w.heap.size w w' :=
  step_lit 2 3 4 0 0 4 8 4 8 3 4 0 0 0 4 w hT rfl rfl (by decide) (by decide) rfl (by kernel_rfl)
theorem may_1 (w : World) : Calls Tryd.prog 12 #[.int .i64 0, v4 2 0 0 0] w fun r w' => r = .returned (.bool true) ∧ Below w.heap.size w w' := by
  have := may_any 0 ⟨2, 0, 0, 0⟩ w (by decide)
  rw [show may 0 ⟨2, 0, 0, 0⟩ = true by kernel_rfl] at this
  exact this
theorem stronger_1 (w : World) (hT : Tz w) : Calls Tryd.prog 17 #[.int .u32 3, .int .u32 4] w fun r w' => r = .returned (.bool true) ∧ Below w.heap.size w w' := by
  have := stronger_any 3 4 w (by decide) (by decide) hT
  rw [show str 3 4 = true by kernel_rfl] at this
  exact this
theorem run_1 (w : World) (G : Nat) (hG : w.heap.size = G) (hT : Tz w) : Calls Tryd.prog 9 #[.int .i64 0, .slice (some ⟨G, 0, none⟩) 1 1] (w.alloc (.cells #[.int .i64 1, .int .u32 0] 32)) fun e w' => ∃ g d, e = .returned (.tuple #[.slice (some ⟨g, 0, none⟩) 1 1, .slice (some ⟨d, 0, none⟩) 1 1]) ∧ Below w.heap.size w w' := by
  subst hG
  have B := al (Below.refl w.heap.size w) (Obj.cells #[.int .i64 1, .int .u32 0] 32)
  have hc := cells2 (heap_at (w := w) rfl (Obj.cells #[.int .i64 1, .int .u32 0] 32))
  refine (run_any 0 (some ⟨w.heap.size, 0, none⟩) 1 1 (fun _ => (1, 0)) (w.alloc (.cells #[.int .i64 1, .int .u32 0] 32)) (by kernel_rfl) ?_ (by decide) (hT.below B)).mono ?_
  · intro i hi
    obtain rfl : i = 0 := by omega
    exact ⟨w.heap.size, 0, rfl, hc.1, hc.2, by decide⟩
  · rintro e w' ⟨g, d, rfl, -, -, b⟩
    exact ⟨g, d, rfl, B.trans (b.mono B.size)⟩
set_option maxHeartbeats 8000000 in
set_option maxRecDepth 100000 in
theorem fixed_any (w : World) (hT : Tz w) : Calls Tryd.prog 8 #[] w fun e w' => e = .returned (.bool true) ∧ Below w.heap.size w w' := by
  have HT := Lib.hid hT
  clear hT
  have q1 := eql_mach 2 0 0 0 2 0 0 0
  have q2 := eql_mach 3 1 0 0 3 1 0 0
  rw [show decide ((2 : Int) = 2 ∧ (0 : Int) = 0 ∧ (0 : Int) = 0 ∧ (0 : Int) = 0) = true by decide] at q1
  rw [show decide ((3 : Int) = 3 ∧ (1 : Int) = 1 ∧ (0 : Int) = 0 ∧ (0 : Int) = 0) = true by decide] at q2
  have q3 := guardM
  go_enter Tryd.func8, Tryd.ntmps8
  go_wp2_with fail
  refine (step_1 w HT.out).mono ?_
  rintro e w1 ⟨rfl, b1⟩
  have X1 := Lib.hid (((Stay.start w).next b1).alloc (o4 2 0 0 0))
  clear b1
  go_wp2_with fail
  generalize w1.alloc (o4 2 0 0 0) = y1 at *
  generalize w1.heap.size = p1 at *
  go_wp2_with fail
  refine (step_2 y1 (HT.out.below X1.out.b)).mono ?_
  rintro e w2 ⟨rfl, b2⟩
  have X2 := Lib.hid ((X1.out.next b2).alloc (o4 3 1 0 0))
  clear b2
  go_wp2_with fail
  generalize w2.alloc (o4 3 1 0 0) = y2 at *
  generalize w2.heap.size = p2 at *
  go_wp2_with fail
  refine (step_3 y2 (HT.out.below X2.out.b)).mono ?_
  rintro e w3 ⟨rfl, b3⟩
  have X3 := Lib.hid ((X2.out.next b3).alloc (o4 2 0 0 0))
  clear b3
  go_wp2_with fail
  generalize w3.alloc (o4 2 0 0 0) = y3 at *
  generalize w3.heap.size = p3 at *
  go_wp2_with fail
  refine (step_4 y3 (HT.out.below X3.out.b)).mono ?_
  rintro e w4 ⟨rfl, b4⟩
  have X4 := Lib.hid ((X3.out.next b4).alloc (o4 3 4 0 0))
  clear b4
  go_wp2_with fail
  have Z4 := Lib.hid (show (w4.alloc (o4 3 4 0 0)).heap.size = w4.heap.size + 1 by simp)
  generalize w4.alloc (o4 3 4 0 0) = y4 at *
  generalize w4.heap.size = p4 at *
  refine (run_1 y4 _ Z4.out (HT.out.below X4.out.b)).mono ?_
  rintro e w5 ⟨g, d, rfl, b5⟩
  have X5 := Lib.hid (X4.out.next b5)
  clear b5
  obtain ⟨a0, a1, a2, a3⟩ := cells4 (X5.out.at 3 rfl)
  obtain ⟨b0, b1, b2, b3⟩ := cells4 (X5.out.at 2 rfl)
  obtain ⟨c0, c1, c2, c3⟩ := cells4 (X5.out.at 1 rfl)
  obtain ⟨d0, d1, d2, d3⟩ := cells4 (X5.out.at 0 rfl)
  go_wp2_with fail
  refine (may_1 w5).mono ?_
  rintro e w6 ⟨rfl, b6⟩
  have X6 := Lib.hid (X5.out.next b6)
  clear b6
  go_wp2_with fail
  refine (stronger_1 w6 (HT.out.below X6.out.b)).mono ?_
  rintro e w7 ⟨rfl, b7⟩
  have X7 := Lib.hid (X6.out.next b7)
  clear b7
  go_wp2
  go_ret
  exact ⟨rfl, X7.out.b⟩
theorem results_ref1 {fn : Func} {p : Tmp} (h : fn.results = #[.cell p 30]) (tmps : Array Value) (w : World) (g : Nat) (t : TypeId) (x1 x2 x3 x4 : Value) (fr : Nat × Nat)
    (hp : tmps.getD p undef = .pointer (some ⟨g, 0, none⟩)) (hg : w.heap[g]? = some (.cells #[x1, x2, x3, x4] t fr)) :
    (results fn tmps).run Tryd.prog w = .ok (.agg #[x1, x2, x3, x4]) w := by
  have hp' : tmps[p]?.getD undef = .pointer (some ⟨g, 0, none⟩) := by simpa using hp
  simp [results, h, hp', asAddr, run_loadVar_row w g t 30 #[x1, x2, x3, x4] fr _ hg Tryd.underlying30 rfl (by kernel_rfl)]
theorem ret_ref1 {fn : Func} {R : Ending → World → Prop} {p : Tmp} (h : fn.results = #[.cell p 30]) {tmps : Array Value} {w : World} {g : Nat} {x1 x2 x3 x4 : Value} {t : TypeId} {fr : Nat × Nat}
    (hp : tmps.getD p undef = .pointer (some ⟨g, 0, none⟩)) (hg : w.heap[g]? = some (.cells #[x1, x2, x3, x4] t fr)) (hR : R (.returned (.agg #[x1, x2, x3, x4])) w) :
    bodyPost Tryd.prog fn R .ret { tmps := tmps, defers := [] } w :=
  bodyPost_ret (results_ref1 h tmps w g t x1 x2 x3 x4 fr hp hg) rfl hR
set_option maxHeartbeats 1000000 in
theorem of_any (a : Mc) (w : World) : Calls Tryd.prog 11 #[mv a] w fun e w' => e = .returned (mv a) ∧ Below w.heap.size w w' := by
  obtain ⟨s, c, m, x⟩ := a
  go_enter Tryd.func11, Tryd.ntmps11
  go_wp2
  exact ret_ref1 rfl rfl (heap_at (by simp) _) ⟨rfl, al (al (Below.refl _ _) _) _⟩
end Go.Proofs.YtigehmlfdbejaaaDoor.MachW
