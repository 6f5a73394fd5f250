/- tick.answer: the deferred closure that recovers, and what a reckoning comes to. -/
import Derived.Test.YtmpceabhnhipcaaTickWide
import Derived.Tactics
import Derived.Tactics2
import Derived.Defers
import Derived.Recover
import Derived.Laws.Pointers
namespace Go.Proofs.Ytmpceabhnhipcaa.TickW
open Go.RowKit
theorem assert_errno (n : Int) (w : World) : (Instr.typeAssert (.iface 26 (.int .i64 n)) 20 26 true).run Try.prog w = .ok (.tuple #[.int .i64 n, .bool true]) w := by kernel_rfl
theorem assert_nil (w : World) : (Instr.typeAssert .nilIface 20 26 true).run Try.prog w = .ok (.tuple #[.int .i64 0, .bool false]) w := by kernel_rfl
theorem neq_nil (w : World) : (binOp .neq 20 .nilIface .nilIface).run Try.prog w = .ok (.bool false) w := by kernel_rfl
set_option maxHeartbeats 1000000 in
theorem catch_panicking (p : Addr) (x : Int) (older : List PanicEntry) (w : World) (hc : w.cell? p = some (.int .i64 x)) (hz : w.frozen? p = false) :
    CallsD Try.prog 49 #[.pointer (some p)] (.panicking ({ v := .iface 26 (.int .i64 4), recovered := false } :: older)) w fun e u' w' =>
      e = .returned (.tuple #[]) ∧ u' = .panicking ({ v := .iface 26 (.int .i64 4), recovered := true } :: older) ∧ w' = w.setCell p (.int .i64 4) := by
  have kT := fun w => assert_errno 4 w
  refine callsD_of_wpS Try.func49 rfl fun c₀ cs hu => ?_
  apply wpS_seq
  apply wpS_region
  simp [wpOpsS, go_sem, recoverD, hu, Try.ntmps49, Exit.thenS]
  apply wpS_of_wp
  change Code.wp _ _ _ { tmps := #[.pointer (some p), .iface 26 (.int .i64 4), undef, undef, .iface 26 (.int .i64 4), undef, undef, undef, undef, undef, undef, undef, undef, undef, undef], defers := [] } w
  go_wp2
  simp [bodyPostS, results, Try.results49]
set_option maxHeartbeats 1000000 in
theorem catch_idle (p : Addr) (w : World) :
    CallsD Try.prog 49 #[.pointer (some p)] .returning w fun e u' w' => e = .returned (.tuple #[]) ∧ u' = .returning ∧ w' = w := by
  have kT := assert_nil
  have kN := neq_nil
  refine callsD_of_wpS Try.func49 rfl fun c₀ cs hu => ?_
  apply wpS_seq
  apply wpS_region
  simp [wpOpsS, go_sem, recoverD, hu, Try.ntmps49, Exit.thenS]
  apply wpS_of_wp
  change Code.wp _ _ _ { tmps := #[.pointer (some p), .nilIface, undef, undef, .nilIface, undef, undef, undef, undef, undef, undef, undef, undef, undef, undef], defers := [] } w
  go_wp2
  cases c₀
  simp_all [bodyPostS, results, Try.results49]
set_option maxHeartbeats 1000000 in
/-- What fits in 64 bits is answered. -/
theorem answer_in (K : FuncId) (hK : ∀ args w, (callFunc K args).run Try.prog w = .ok (.enter K args) w) (caps : Array Value) (z : Int) (h0 : -9223372036854775808 ≤ z) (h1 : z ≤ 9223372036854775807) (w : World)
    (H : ∀ W, Below w.heap.size w W → Calls Try.prog K caps W fun e w' => e = .returned (wv z) ∧ Below W.heap.size W w') :
    Calls Try.prog 40 #[.func (.func K) #[] caps] w fun e w' => e = .returned (.tuple #[.int .i64 z, .int .i64 0]) ∧ Below w.heap.size w w' := by
  have hmf : ∀ (fn : Fn) (first cap : Array Value) (w : World), (Instr.makeFunc fn first cap).run Try.prog w = .ok (.func fn first cap) w := fun _ _ _ _ => rfl
  go_enter_defers Try.func40, Try.ntmps40
  go_wp2_with fail
  have hb := al (Below.refl w.heap.size w) (Obj.cells #[.int .i64 0] 26)
  have c0 := heap_alloc_new w (Obj.cells #[.int .i64 0] 26)
  generalize w.alloc (Obj.cells #[.int .i64 0] 26) = W at *
  refine (H W hb).mono ?_
  rintro e W1 ⟨rfl, b1⟩
  have c1 := row_below b1 c0
  have hb1 := hb.trans (b1.mono hb.size)
  clear c0 hb b1 H
  go_wp2_with fail
  refine (narrow_in z h0 h1 _).mono ?_
  rintro e W2 ⟨rfl, b2⟩
  have c2 := row_below b2 c1
  have hb2 := hb1.trans (b2.mono hb1.size)
  have z0 := cell_of_row W2 w.heap.size 0 _ _ _ c2
  have fr0 := frozen_of_row W2 w.heap.size 0 _ _ c2
  have HC := Lib.hid c2
  have HB := Lib.hid hb2
  clear c1 hb1 b2 c2 hb2
  go_wp2
  refine leaves_cons (f := 49) (args := #[.pointer (some ⟨w.heap.size, 0, none⟩)]) (by simp) (by simp [go_sem]) ?_
  refine (catch_idle _ _).mono ?_
  rintro e u' w'' ⟨rfl, rfl, rfl⟩
  have hB := HB.out.setCell (p := ⟨w.heap.size, 0, none⟩) (Nat.le_refl _) (.int .i64 0)
  simp [Leaves, settle, results, Try.results40, go_sem, z0]
  exact hB
set_option maxHeartbeats 1000000 in
/-- What is none of 64 bits is refused. -/
theorem answer_out (K : FuncId) (hK : ∀ args w, (callFunc K args).run Try.prog w = .ok (.enter K args) w) (caps : Array Value) (z : Int) (h : z < -9223372036854775808 ∨ 9223372036854775807 < z) (hl : -170141183460469231731687303715884105728 ≤ z) (hg : z < 170141183460469231731687303715884105728) (w : World)
    (H : ∀ W, Below w.heap.size w W → Calls Try.prog K caps W fun e w' => e = .returned (wv z) ∧ Below W.heap.size W w') :
    Calls Try.prog 40 #[.func (.func K) #[] caps] w fun e w' => e = .returned (.tuple #[.int .i64 0, .int .i64 4]) ∧ Below w.heap.size w w' := by
  have hmf : ∀ (fn : Fn) (first cap : Array Value) (w : World), (Instr.makeFunc fn first cap).run Try.prog w = .ok (.func fn first cap) w := fun _ _ _ _ => rfl
  go_enter_defers Try.func40, Try.ntmps40
  go_wp2_with fail
  have hb := al (Below.refl w.heap.size w) (Obj.cells #[.int .i64 0] 26)
  have c0 := heap_alloc_new w (Obj.cells #[.int .i64 0] 26)
  generalize w.alloc (Obj.cells #[.int .i64 0] 26) = W at *
  refine (H W hb).mono ?_
  rintro e W1 ⟨rfl, b1⟩
  have c1 := row_below b1 c0
  have hb1 := hb.trans (b1.mono hb.size)
  clear c0 hb b1 H
  go_wp2_with fail
  refine (narrow_out z h hl hg _).mono ?_
  rintro e W2 ⟨rfl, b2⟩
  have c2 := row_below b2 c1
  have hb2 := hb1.trans (b2.mono hb1.size)
  have z0 := cell_of_row W2 w.heap.size 0 _ _ _ c2
  have fr0 := frozen_of_row W2 w.heap.size 0 _ _ c2
  have HC := Lib.hid c2
  have HB := Lib.hid hb2
  clear h hl hg
  clear c1 hb1 b2 c2 hb2
  go_wp2
  refine leaves_cons (f := 49) (args := #[.pointer (some ⟨w.heap.size, 0, none⟩)]) (by simp) (by simp [go_sem]) ?_
  refine (catch_panicking _ 0 [] _ z0 fr0).mono ?_
  rintro e u' w'' ⟨rfl, rfl, rfl⟩
  have hB := HB.out.setCell (p := ⟨w.heap.size, 0, none⟩) (Nat.le_refl _) (.int .i64 4)
  simp [Leaves, settle, results, Try.results40, go_sem, z0]
  exact hB
end Go.Proofs.Ytmpceabhnhipcaa.TickW

