/- The chapter's examples; what the laws' shells take: no variable is listed. -/
import Derived.Test.YtmkgnkbcdkcboaaPermI
import Derived.Test.YtmkgnkbcdkcboaaLawShell
import Derived.Test.YtmkgnkbcdkcboaaOpen
import Derived.ProofKit
import Derived.OpenShut
import Derived.Laws.Cover2
import Derived.Deep.DeepHandedRow
import Derived.Deep.DeepWitnessRowRef
import Derived.SizedLaws
namespace Go.Proofs.Ytmkgnkbcdkcboaa.PermW
open Go.RowKit Shell
open QueueW hiding al cell_keep
open ClockW (CK CI RV tell tell_iff sh wh okN_iff)
open FrameW (CV rightC)
theorem own : ownKnob Try.prog.godebug = none := by kernel_rfl
theorem laidOut : laidOutB Try.prog = true := by kernel_rfl
theorem laid_met (os : Os) (args : Array Value) : laidMet Try.prog [] ((World.holding Try.prog os ⟨#[], #[], []⟩).forCall (fun _ _ => 0) ⟨#[], args, []⟩).memory :=
  laidMet_of_run' 8 (by kernel_rfl) (by kernel_rfl)
theorem i64_wf {n : Int} (h : (Lit.int .i64 n).wf = true) : -9223372036854775808 ≤ n ∧ n ≤ 9223372036854775807 := by
  simp [Lit.wf] at h
  exact h
theorem u32_wf {n : Int} (h : (Lit.int .u32 n).wf = true) : 0 ≤ n ∧ n ≤ 4294967295 := by
  simp [Lit.wf] at h
  exact h
theorem u16_wf {n : Int} (h : (Lit.int .u16 n).wf = true) : 0 ≤ n ∧ n ≤ 65535 := by
  simp [Lit.wf] at h
  exact h
theorem u8_wf {n : Int} (h : (Lit.int .u8 n).wf = true) : 0 ≤ n ∧ n ≤ 255 := by
  simp [Lit.wf] at h
  exact h
theorem ci0 : CI 0 0 0 := ⟨by decide, by decide, by decide, by decide, by decide, by decide⟩
set_option maxHeartbeats 4000000 in
set_option maxRecDepth 100000 in
theorem fixed_any (w : World) : Calls Try.prog 8 #[] w fun e w' => e = .returned (.bool true) ∧ Below w.heap.size w w' := by
  have E1 : tkA 0 0 0 2000 0 1500 1 0 0 0 1500 = (2000, 0) := by decide +kernel
  have E2 : tkA 0 0 0 2000 1 300 1 1 0 0 200 = (2100, 0) := by decide +kernel
  have E3 : tkA 0 0 0 2000 2 300 1 1 0 0 2001 = (0, 4) := by decide +kernel
  have E4 : du 0 0 0 5 1 10 (tell 0 5) = (14, 0) := by decide +kernel
  have E1 := Lib.hid E1
  have E2 := Lib.hid E2
  have E3 := Lib.hid E3
  have E4 := Lib.hid E4
  go_enter Try.func8, Try.ntmps8
  go_wp2_with fail
  refine (ClockW.new_ok 0 0 0 (by decide) _).mono ?_
  rintro e w1 ⟨rfl, c1, b1⟩
  have C1 := Lib.hid c1
  have B1 := Lib.hid b1
  clear c1 b1
  go_wp2_with fail
  refine (new_ok 2000 (by decide) _).mono ?_
  rintro e w2 ⟨g, rfl, hg, hk, b2⟩
  have P1 := Lib.hid (PW.mk0 (L := []) (w0 := w) (Stay.next ⟨B1.out, fun x hx => by cases hx⟩ b2) hk (C1.out.below b2) ci0 B1.out.size (Nat.le_refl _) (by have := C1.out.lt; omega) (by have := C1.out.lt; omega) (fun x hx => by cases hx))
  generalize w1.heap.size = q at *
  generalize hj : w.heap.size = j at *
  clear hg hk b2 C1 B1 hj
  go_wp2_with fail
  refine (P1.out.takeA 1500 1 0 0 0 1500 (by decide) (by decide) 2000 0 E1.out).mono ?_
  rintro e w3 ⟨rfl, p1, -, P2⟩
  rw [if_pos rfl] at P2
  have P2 := Lib.hid P2
  clear P1
  go_wp2_with fail
  refine (P2.out.takeA 300 1 1 0 0 200 (by decide) (by decide) 2100 0 E2.out).mono ?_
  rintro e w4 ⟨rfl, p2, -, P3⟩
  rw [if_pos rfl, ins, ins, if_neg (by unfold lt; simp), ins] at P3
  have P3 := Lib.hid P3
  clear P2
  go_wp2_with fail
  refine (P3.out.takeA 300 1 1 0 0 2001 (by decide) (by decide) 0 4 E3.out).mono ?_
  rintro e w5 ⟨rfl, p3, -, P4⟩
  rw [if_neg (by decide)] at P4
  have P4 := Lib.hid P4
  clear P3
  go_wp2_with fail
  refine P4.out.nxt.mono ?_
  dsimp only [PermW.nxt]
  rintro e w6 ⟨rfl, P5⟩
  have P5 := Lib.hid P5
  clear P4
  go_wp2_with fail
  refine (P5.out.give_later 1999 (by show (1999 : Int) < 2000; decide)).mono ?_
  rintro e w7 ⟨rfl, P6⟩
  have P6 := Lib.hid (P6.alloc (cbx 0 0 0 0 0))
  clear P5
  go_wp2_with fail
  generalize w7.alloc (.cells #[.int .i64 0, .int .i64 0, .int .i64 0, .int .u32 0, .int .i64 0] 37 (0, 0)) = w8 at *
  refine (P6.out.give 2000 (by show (2000 : Int) ≤ 2000; decide)).mono ?_
  dsimp only [It.thing]
  rintro e w9 ⟨rfl, P7⟩
  have P7 := Lib.hid ((P7.sub (M := []) (by simp)).alloc (cbx 1 0 0 0 1500))
  clear P6
  go_wp2_with fail
  generalize w9.alloc (.cells #[.int .i64 1, .int .i64 0, .int .i64 0, .int .u32 0, .int .i64 1500] 37 (0, 0)) = w10 at *
  refine (P7.out.dueA 5 1 10 14 0 E4.out).mono ?_
  rintro e w11 ⟨rfl, P8⟩
  obtain ⟨d0, d1, d2, d3, d4⟩ := cells5 (P8.st.at 0 rfl)
  have P8 := Lib.hid P8
  clear P7
  have LL := Lib.hid P8.out.len
  go_wp2_with (go_at_call 19; refine LL.out.mono ?_; rintro e w' ⟨rfl, rfl⟩)
  go_ret
  exact ⟨rfl, P8.out.st.b⟩
end Go.Proofs.Ytmkgnkbcdkcboaa.PermW
