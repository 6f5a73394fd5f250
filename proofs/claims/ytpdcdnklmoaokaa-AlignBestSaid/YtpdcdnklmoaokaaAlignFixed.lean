/- The chapter's examples; a family's configuration; what the laws' shells take: no variable is listed. -/
import Derived.Test.YtpdcdnklmoaokaaAlignE
import Derived.Test.YtpdcdnklmoaokaaConfFam
import Derived.Test.YtpdcdnklmoaokaaLawShell
import Derived.Test.YtpdcdnklmoaokaaOpen
import Derived.ProofKit
import Derived.OpenShut
import Derived.Laws.Cover2
import Derived.Deep.DeepHandedRow
import Derived.Deep.DeepWitnessRowRef
import Derived.SizedLaws
namespace Go.Proofs.Ytpdcdnklmoaokaa.AlignW
open Go.RowKit Shell
open ConfW (Cfg CM CX chk famC famD famEs clampH clampN clampH_in clampN_in refFamily_any)
open FrameW (CV rightC)
open CrewW (mem)
theorem own : ownKnob Try.prog.godebug = none := by kernel_rfl
theorem laidOut : laidOutB Try.prog = true := by kernel_rfl
theorem laid_met (os : Os) (args : Array Value) : laidMet Try.prog [] ((World.holding Try.prog os ⟨#[], #[], []⟩).forCall (fun _ _ => 0) ⟨#[], args, []⟩).memory :=
  laidMet_of_run' 8 (by kernel_rfl) (by kernel_rfl)
theorem i64_wf {n : Int} (h : (Lit.int .i64 n).wf = true) : -9223372036854775808 ≤ n ∧ n ≤ 9223372036854775807 := by
  simp [Lit.wf] at h
  exact h
theorem i32_wf {n : Int} (h : (Lit.int .i32 n).wf = true) : -2147483648 ≤ n ∧ n ≤ 2147483647 := by
  simp [Lit.wf] at h
  exact h
theorem u32_wf {n : Int} (h : (Lit.int .u32 n).wf = true) : 0 ≤ n ∧ n ≤ 4294967295 := by
  simp [Lit.wf] at h
  exact h
theorem u8_wf {n : Int} (h : (Lit.int .u8 n).wf = true) : 0 ≤ n ∧ n ≤ 255 := by
  simp [Lit.wf] at h
  exact h
def famHN (h n : Nat) : Cfg := { hosts := (h : Nat), cycle := 2000000, delay := 2000, window := 1000, precision := 500, delays := famD h, entries := famEs h n, links := [], queue := 8 }
theorem chk_all : ∀ h ∈ List.range 7, h ≠ 0 → ∀ n ∈ List.range 17, chk (famHN h n) = 0 := by decide +kernel
theorem chk_fam (x y : Int) : chk (famC x y) = 0 := by
  have h := clampH_in x
  have n := clampN_in y
  exact chk_all (clampH x) (List.mem_range.2 (by omega)) (by omega) (clampN y) (List.mem_range.2 (by omega))
theorem fam_any (x n : Int) (w : World) : Calls Try.prog 14 #[.int .i64 x, .int .i64 n] w fun r w' =>
    ∃ c D E nd cd ne ce, r = .returned (.agg #[.int .i64 c.hosts, .int .i64 c.cycle, .int .i64 c.delay, .int .i64 c.window, .int .i64 c.precision, .slice D nd cd, .slice E ne ce, .slice none 0 0, .int .i64 c.queue]) ∧
      CM w' c D E none nd cd ne ce 0 0 ∧ (chk c = 0 ∧ c.cycle = 2000000 ∧ exC c = 5000 ∧ acC c = 2000) ∧ Below w.heap.size w w' := by
  refine (refFamily_any x n w).mono ?_
  rintro r w' ⟨D, E, nd, cd, ne, ce, rfl, h, b⟩
  exact ⟨famC x n, D, E, nd, cd, ne, ce, rfl, h, ⟨chk_fam x n, rfl, rfl, rfl⟩, b⟩
/-- A family's host service, as it is made. -/
theorem fam_new {c : Cfg} (hc : chk c = 0 ∧ c.cycle = 2000000 ∧ exC c = 5000 ∧ acC c = 2000) {w0 w w1 : World} {L : List (Nat × Obj)} {g : Nat} (s : Stay w0 L w) (h : w1.heap[g]? = some (abx c.cycle (exC c) (acC c) zB zC)) (hg : w.heap.size ≤ g) (b : Below w.heap.size w w1) : PA w0 L g 2000000 5000 2000 zB zC w1 := by
  obtain ⟨hz, h1, h2, h3⟩ := hc
  have P := pa_new s hz h hg b
  rw [h1, h2, h3] at P
  exact P
/-- A configuration of noughts: it may not be. -/
def c0 : Cfg := { hosts := 0, cycle := 0, delay := 0, window := 0, precision := 0, delays := [], entries := [], links := [], queue := 0 }
theorem cm0 (w : World) : CM w c0 none none none 0 0 0 0 0 0 :=
  ⟨(fun _ _ h => by cases h), (fun _ _ h => by cases h), (fun _ _ h => by cases h), rfl, rfl, rfl, Nat.zero_le _, Nat.zero_le _, Nat.zero_le _, Nat.le_refl _, Nat.le_refl _, Nat.le_refl _, fun _ => rfl, fun _ => rfl, fun _ => rfl⟩
theorem new_zero (w : World) : Calls Try.prog 8 #[.agg #[.int .i64 0, .int .i64 0, .int .i64 0, .int .i64 0, .int .i64 0, .slice none 0 0, .slice none 0 0, .slice none 0 0, .int .i64 0]] w fun r w' => r = .returned (.tuple #[.pointer none, .int .i64 1]) ∧ Below w.heap.size w w' :=
  new_bad c0 none none none 0 0 0 0 0 0 w (cm0 w) (by decide)
set_option maxHeartbeats 4000000 in
set_option maxRecDepth 100000 in
theorem fixed_any (w : World) : Calls Try.prog 7 #[] w fun e w' => e = .returned (.bool true) ∧ Below w.heap.size w w' := by
  have NZ := Lib.hid (fun W => new_zero W)
  go_enter Try.func7, Try.ntmps7
  go_wp2_with fail
  refine (fam_any 4 0 _).mono ?_
  rintro r w1 ⟨c, D, E, nd, cd, ne, ce, rfl, hm, hc, b1⟩
  have HM := Lib.hid hm
  have HC := Lib.hid hc
  have S := Lib.hid ((Stay.start w).next b1)
  clear hm hc b1
  go_wp2_with fail
  refine (new_ok c D E none nd cd ne ce 0 0 _ HM.out HC.out.1).mono ?_
  rintro r w2 ⟨g, rfl, h2, hg, b2⟩
  have P := Lib.hid (fam_new HC.out S.out h2 hg b2)
  clear h2 hg b2 HM HC S
  go_wp2_with fail
  refine (NZ.out _).mono ?_
  rintro r w3 ⟨rfl, b3⟩
  have P3 := Lib.hid (P.out.next b3)
  clear b3 P NZ
  have Q := Lib.hid (P3.out.hear 3 6005300 2 6 3 7 0 0 (by decide) rfl (by decide) (by decide) (by decide) rfl (by unfold inT; decide) rfl 7 rfl (-300) (by decide))
  go_wp2_with fail
  refine Q.out.mono ?_
  rintro r w4 ⟨rfl, p4, -⟩
  have P4 := Lib.hid p4
  clear p4 P3 Q
  have Q := Lib.hid (P4.out.hear 3 6004000 2 7 3 3 0 1 (by decide) rfl (by decide) (by decide) (by decide) rfl (by unfold inT; decide) rfl 3 rfl 1000 (by decide))
  go_wp2_with fail
  refine Q.out.mono ?_
  rintro r w5 ⟨rfl, p5, -⟩
  have P5 := Lib.hid p5
  clear p5 P4 Q
  have Q := Lib.hid (P5.out.close (-300) 7 2 (by decide +kernel) (by decide +kernel) (by decide +kernel))
  go_wp2_with fail
  refine Q.out.mono ?_
  rintro r w6 ⟨rfl, p6, -⟩
  have P6 := Lib.hid p6
  clear p6 P5 Q
  have Q := Lib.hid (P6.out.range 3 6007001 2 6 3 7 0 0 (by decide) rfl (by decide) (by decide) (by decide) rfl (Or.inr (by unfold inT; decide)))
  go_wp2_with fail
  refine Q.out.mono ?_
  rintro r w7 ⟨rfl, p7, -⟩
  have P7 := Lib.hid p7
  clear p7 P6 Q
  have Q := Lib.hid (P7.out.exp 3 (by decide) 6005000 (by decide))
  go_wp2_with (first
    | (go_at_call 9; refine Q.out.mono ?_; rintro r w8 ⟨rfl, p8, -⟩; have P8 := Lib.hid p8; clear p8)
    | (go_at_call 11; refine P8.out.acc.mono ?_; rintro r w9 ⟨rfl, h9⟩; obtain rfl := h9))
  go_ret
  exact ⟨rfl, P8.out.st.b⟩
/-- The document's own offset. -/
theorem offset_any (c : Cfg) (D E L : Option Addr) (nd cd ne ce nl cl : Nat) (w : World) (hz : chk c = 0) : Calls Try.prog 10 #[.agg #[.int .i64 c.hosts, .int .i64 c.cycle, .int .i64 c.delay, .int .i64 c.window, .int .i64 c.precision, .slice D nd cd, .slice E ne ce, .slice L nl cl, .int .i64 c.queue]] w fun r w' => r = .returned (.int .i64 (exC c)) ∧ Below w.heap.size w w' := by
  have X := Lib.hid (CX.start (w0 := w) (c := c) (D := D) (E := E) (L := L) (nd := nd) (cd := cd) (ne := ne) (ce := ce) (nl := nl) (cl := cl))
  obtain ⟨hy, hd, hw, hp⟩ := spans_ok hz
  have w1 : wrap64 (c.delay + c.delay) = exC c - c.window := by unfold wrap64 exC; omega
  have w2 : exC c - c.window + c.window = exC c := by omega
  have w3 : wrap64 (exC c) = exC c := by unfold wrap64 exC; omega
  obtain ⟨-, a0, a1, a2, a3, a4, a5, a6, a7, a8⟩ := X.out.s
  clear hz hy hd hw hp
  go_enter Try.func10, Try.ntmps10
  go_wp2
  go_ret
  exact ⟨by show Ending.returned (.int .i64 (wrap64 (exC c))) = _; rw [w3], X.out.b⟩
end Go.Proofs.Ytpdcdnklmoaokaa.AlignW
