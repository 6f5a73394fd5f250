/- The chapter's examples; what the laws' shells take: no variable is listed. -/
import Derived.Test.YtpjaijibkjmgiaaCompL
import Derived.Test.YtpjaijibkjmgiaaLawShell
import Derived.Test.YtpjaijibkjmgiaaOpen
import Derived.ProofKit
import Derived.OpenShut
import Derived.Laws.Cover2
import Derived.Deep.DeepHandedRow
import Derived.Deep.DeepWitnessRowRef
import Derived.SizedLaws
namespace Go.Proofs.Ytpjaijibkjmgiaa.CompW
open Go.RowKit Shell
open FrameW (CV rightC)
open MeanW (halfAt tolK srt)
theorem own : ownKnob Try.prog.godebug = none := by kernel_rfl
theorem laidOut : laidOutB Try.prog = true := by kernel_rfl
theorem laid_met (os : Os) (args : Array Value) : laidMet Try.prog [] ((World.holding Try.prog os ⟨#[], #[], []⟩).forCall (fun _ _ => 0) ⟨#[], args, []⟩).memory :=
  laidMet_of_run' 8 (by kernel_rfl) (by kernel_rfl)
theorem i64_wf {n : Int} (h : (Lit.int .i64 n).wf = true) : -9223372036854775808 ≤ n ∧ n ≤ 9223372036854775807 := by
  simp [Lit.wf] at h
  exact h
theorem i32_wf {n : Int} (h : (Lit.int .i32 n).wf = true) : -2147483648 ≤ n ∧ n ≤ 2147483647 := by
  simp [Lit.wf] at h
  exact h
theorem u32_wf {n : Int} (h : (Lit.int .u32 n).wf = true) : 0 ≤ n ∧ n ≤ 4294967295 := by
  simp [Lit.wf] at h
  exact h
theorem u8_wf {n : Int} (h : (Lit.int .u8 n).wf = true) : 0 ≤ n ∧ n ≤ 255 := by
  simp [Lit.wf] at h
  exact h
theorem guardR : Try.prog.eqGuardType Try.prog.depth 39 = false := by kernel_rfl
set_option maxRecDepth 100000 in
theorem eql_res (p s y : Int) (w : World) : (binOp .eql 39 (.agg #[.int .i64 p, .int .u32 s, .int .i64 y]) (.agg #[.int .i64 p, .int .u32 s, .int .i64 y])).run Try.prog w = .ok (.bool true) w := by
  have u2 := Try.underlying2
  have u4 := Try.underlying29
  have a2 := Try.isAgg2
  have z2 := Try.sizeOf2
  have a4 := Try.isAgg29
  have z4 := Try.sizeOf29
  have hS : Try.prog.underlying 39 = some (.struct (Try.prog.fieldsOf 39)) := by kernel_rfl
  have hp : Try.prog.stoodInHeld 39 = false := by kernel_rfl
  rw [run_eql_struct, show (10000 : Nat) = 9999 + 1 from rfl, run_equalIn_agg w 9999 39 _ _ hS hp]
  simp only [Program.fieldsOf, Try.underlying39]
  go_simp
theorem neq_res (p s y : Int) (w : World) : (binOp .neq 39 (.agg #[.int .i64 p, .int .u32 s, .int .i64 y]) (.agg #[.int .i64 p, .int .u32 s, .int .i64 y])).run Try.prog w = .ok (.bool false) w := FrameW.neq_of_eql (eql_res p s y w)
theorem from_any (h : Int) (w : World) : Calls Try.prog 19 #[.int .i64 h] w fun e w' => e = .returned (CV 1 h 3 0 0) ∧ Below w.heap.size w w' := by
  go_enter Try.func19, Try.ntmps19
  go_wp2
  refine ret_c rfl rfl (heap_alloc_new _ _) ?_
  exact ⟨rfl, al (Below.refl _ _) _⟩
abbrev e0 : Fr := ⟨1000, 0, 3, 0, 0⟩
abbrev e1 : Fr := ⟨1010, 1, 3, 0, 0⟩
abbrev e2 : Fr := ⟨1090, 2, 3, 0, 0⟩
theorem pt_e : pt [e0, e1, e2] = 1010 := by
  have h : srt [1000, 1010, 1090] = [1000, 1010, 1090] := (MeanW.srt_of (List.Perm.refl _) (by decide)).symm
  show halfAt [1000, 1010, 1090] (tolK [1000, 1010, 1090]) = 1010
  unfold halfAt
  rw [h]
  decide
set_option maxRecDepth 100000 in
theorem field_kind (k f y c l : Int) (w : World) : (Instr.field 31 (.agg #[.int .i64 k, .int .i64 f, .int .i64 y, .int .u32 c, .int .i64 l]) 0).run Try.prog w = .ok (.int .i64 k) w := by rfl
set_option maxRecDepth 100000 in
theorem field_crew (k f y c l : Int) (w : World) : (Instr.field 31 (.agg #[.int .i64 k, .int .i64 f, .int .i64 y, .int .u32 c, .int .i64 l]) 3).run Try.prog w = .ok (.int .u32 c) w := by rfl
theorem sS_e : sS [e0, e1, e2] = 7 := by decide +kernel
theorem cy_e : cy [e0, e1, e2] = 3 := by decide +kernel
set_option maxHeartbeats 4000000 in
set_option maxRecDepth 100000 in
theorem fixed_any (w : World) : Calls Try.prog 9 #[] w fun e w' => e = .returned (.bool true) ∧ Below w.heap.size w w' := by
  have F := Lib.hid (fun h W => from_any h W)
  go_enter Try.func9, Try.ntmps9
  go_wp2_with fail
  refine (new_ok 100 (by decide) _).mono ?_
  rintro e w1 ⟨rfl, h1, b1⟩
  have P := Lib.hid (pc_new (Stay.start w) (by decide) h1 b1)
  generalize w.heap.size = g at *
  clear h1 b1
  go_wp2_with fail
  refine (F.out _ _).mono ?_
  rintro e w2 ⟨rfl, b2⟩
  have P2 := Lib.hid (P.out.next b2)
  clear b2 P
  have Q : Hid (Calls Try.prog 11 #[.pointer (some ⟨g, 0, none⟩), .int .i64 1000, CV 1 0 3 0 0] w2 fun e w' => e = .returned (.tuple #[.int .i64 1100, .int .i64 0]) ∧ PC w [] g 100 [e0] w' ∧ Kept g w2 w') := Lib.hid (P2.out.put 1000 0 3 0 0 (by decide) (by decide) (by decide) (Or.inl rfl) (by decide))
  go_wp2_with fail
  refine Q.out.mono ?_
  rintro e w3 ⟨rfl, p3, -⟩
  have P := Lib.hid p3
  clear p3 P2 Q
  go_wp2_with fail
  refine (F.out _ _).mono ?_
  rintro e w4 ⟨rfl, b4⟩
  have P2 := Lib.hid (P.out.next b4)
  clear b4 P
  have Q : Hid (Calls Try.prog 11 #[.pointer (some ⟨g, 0, none⟩), .int .i64 1010, CV 1 1 3 0 0] w4 fun e w' => e = .returned (.tuple #[.int .i64 1100, .int .i64 0]) ∧ PC w [] g 100 [e0, e1] w' ∧ Kept g w4 w') := Lib.hid (P2.out.put 1010 1 3 0 0 (by decide) (by decide) (by decide) (Or.inr (by decide)) (by decide))
  go_wp2_with fail
  refine Q.out.mono ?_
  rintro e w5 ⟨rfl, p5, -⟩
  have P := Lib.hid p5
  clear p5 P2 Q
  go_wp2_with fail
  refine (F.out _ _).mono ?_
  rintro e w6 ⟨rfl, b6⟩
  have P2 := Lib.hid (P.out.next b6)
  clear b6 P
  have Q := Lib.hid (P2.out.no_there (by decide) 1050 1 1 3 0 0 (by decide) (by decide) (by decide) (by decide) (by decide))
  go_wp2_with fail
  refine Q.out.mono ?_
  rintro e w7 ⟨rfl, p7, -⟩
  have P := Lib.hid p7
  clear p7 P2 Q
  go_wp2_with fail
  refine (F.out _ _).mono ?_
  rintro e w8 ⟨rfl, b8⟩
  have P2 := Lib.hid (P.out.next b8)
  clear b8 P
  have Q : Hid (Calls Try.prog 11 #[.pointer (some ⟨g, 0, none⟩), .int .i64 1090, CV 1 2 3 0 0] w8 fun e w' => e = .returned (.tuple #[.int .i64 1100, .int .i64 0]) ∧ PC w [] g 100 [e0, e1, e2] w' ∧ Kept g w8 w') := Lib.hid (P2.out.put 1090 2 3 0 0 (by decide) (by decide) (by decide) (Or.inr (by decide)) (by decide))
  go_wp2_with fail
  refine Q.out.mono ?_
  rintro e w9 ⟨rfl, p9, -⟩
  have P := Lib.hid p9
  clear p9 P2 Q
  go_wp2_with fail
  refine (F.out _ _).mono ?_
  rintro e w10 ⟨rfl, b10⟩
  have P2 := Lib.hid (P.out.next b10)
  clear b10 P
  have Q := Lib.hid (P2.out.no_range (by decide) 1101 1 3 3 0 0 (by decide) (by decide) (by decide) (by decide))
  go_wp2_with fail
  refine Q.out.mono ?_
  rintro e w11 ⟨rfl, p11, -⟩
  have P := Lib.hid p11
  clear p11 P2 Q
  have Q := Lib.hid (P.out.no_close 1099 (Or.inr (by decide)))
  go_wp2_with fail
  refine Q.out.mono ?_
  rintro e w12 ⟨rfl, p12, -⟩
  have P2 := Lib.hid (p12.alloc (rbx 0 0 0))
  clear p12 P Q
  go_wp2_with fail
  generalize w12.alloc (.cells #[.int .i64 0, .int .u32 0, .int .i64 0] 39 (0, 0)) = w13 at *
  generalize w12.heap.size = q at *
  have Q := Lib.hid P2.out.open_
  rw [show decide ([e0, e1, e2] ≠ []) = true by decide] at Q
  refine Q.out.mono ?_
  rintro e w' ⟨rfl, hw⟩
  obtain rfl := hw
  clear Q
  have Q := P2.out.shut (by decide) 1100 (by decide)
  rw [pt_e, sS_e, cy_e] at Q
  have Q := Lib.hid Q
  go_wp2_with fail
  refine Q.out.mono ?_
  rintro e w14 ⟨rfl, p14, -⟩
  have P := Lib.hid (p14.alloc (rbx 1010 7 3))
  clear p14 P2 Q
  have C := Lib.hid (fun W (hb : Below (w14.alloc (rbx 1010 7 3)).heap.size (w14.alloc (rbx 1010 7 3)) W) => cells3 (row_below hb (heap_alloc_new w14 (rbx 1010 7 3))))
  have O := P.out.open_
  rw [show decide (([] : List Fr) ≠ []) = false by decide] at O
  have O := Lib.hid O
  have R := Lib.hid (fun W => frame_any 1010 7 3 6 W)
  obtain ⟨c0, c1, c2⟩ := C.out _ (Below.refl _ _)
  have BB := Lib.hid (Below.refl (w14.alloc (rbx 1010 7 3)).heap.size (w14.alloc (rbx 1010 7 3)))
  have q1 := eql_res 1010 7 3
  have q2 := guardR
  have q3 := field_kind 2 6 3 7 0
  have q4 := field_crew 2 6 3 7 0
  go_wp2_with (first
    | (go_at_call 16; refine O.out.mono ?_; rintro e w' ⟨rfl, hw⟩; obtain rfl := hw.symm)
    | (go_at_call 15; refine (R.out _).mono ?_; rintro e w15 ⟨rfl, b15⟩; have BB := Lib.hid (BB.out.trans (b15.mono BB.out.size)); clear b15; obtain ⟨x0, x1, x2⟩ := C.out _ BB.out))
  go_ret
  exact ⟨rfl, P.out.st.b.trans (BB.out.mono P.out.st.b.size)⟩
end Go.Proofs.Ytpjaijibkjmgiaa.CompW
