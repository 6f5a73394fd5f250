/- Walks: Quiet, Forward, Early, Late, At. -/
import Derived.Test.YtdaoemjkefpmcaaConfB
namespace Go.Proofs.Ytdaoemjkefpmcaa.ConfW
open Go.RowKit Shell
section
variable {w0 w w1 : World} {c : Cfg} {D E L : Option Addr} {nd cd ne ce nl cl : Nat} {e : R4}
/-- Behind w0: a configuration of the call's own, in its first block. -/
structure CX (w0 : World) (c : Cfg) (D E L : Option Addr) (nd cd ne ce nl cl : Nat) (w : World) : Prop where
  b : Below w0.heap.size w0 w
  x : w.heap[w0.heap.size]? = some (Obj.cells #[.int .i64 c.hosts, .int .i64 c.cycle, .int .i64 c.delay, .int .i64 c.window, .int .i64 c.precision, .slice D nd cd, .slice E ne ce, .slice L nl cl, .int .i64 c.queue] 26)
theorem CX.next (h : CX w0 c D E L nd cd ne ce nl cl w) (b : Below w.heap.size w w1) : CX w0 c D E L nd cd ne ce nl cl w1 := ⟨h.b.trans (b.mono h.b.size), row_below b h.x⟩
theorem CX.start : CX w0 c D E L nd cd ne ce nl cl (w0.alloc (Obj.cells #[.int .i64 c.hosts, .int .i64 c.cycle, .int .i64 c.delay, .int .i64 c.window, .int .i64 c.precision, .slice D nd cd, .slice E ne ce, .slice L nl cl, .int .i64 c.queue] 26)) := ⟨al (Below.refl _ _) _, heap_alloc_new w0 _⟩
theorem CX.s (h : CX w0 c D E L nd cd ne ce nl cl w) : Hid (CX w0 c D E L nd cd ne ce nl cl w) ∧ w.cell? ⟨w0.heap.size, 0, none⟩ = some (.int .i64 c.hosts) ∧ w.cell? ⟨w0.heap.size, 1, none⟩ = some (.int .i64 c.cycle) ∧ w.cell? ⟨w0.heap.size, 2, none⟩ = some (.int .i64 c.delay) ∧ w.cell? ⟨w0.heap.size, 3, none⟩ = some (.int .i64 c.window) ∧ w.cell? ⟨w0.heap.size, 4, none⟩ = some (.int .i64 c.precision) ∧ w.cell? ⟨w0.heap.size, 5, none⟩ = some (.slice D nd cd) ∧ w.cell? ⟨w0.heap.size, 6, none⟩ = some (.slice E ne ce) ∧ w.cell? ⟨w0.heap.size, 7, none⟩ = some (.slice L nl cl) ∧ w.cell? ⟨w0.heap.size, 8, none⟩ = some (.int .i64 c.queue) :=
  ⟨Lib.hid h, box_cell h.x rfl, box_cell h.x rfl, box_cell h.x rfl, box_cell h.x rfl, box_cell h.x rfl, box_cell h.x rfl, box_cell h.x rfl, box_cell h.x rfl, box_cell h.x rfl⟩
theorem BX.drew (h : BX w0 c D E L nd cd ne ce nl cl e w) : BX w0 c D E L nd cd ne ce nl cl e w.drew := h.next (Below.refl _ _).drew
end
theorem i64_id {x : Int} (h1 : -9223372036854775808 ≤ x) (h2 : x ≤ 9223372036854775807) : IntKind.i64.wrap x = x := by rw [IntKind.wrap_i64]; omega
set_option maxHeartbeats 1000000 in
theorem quiet_any (c : Cfg) (D E L : Option Addr) (nd cd ne ce nl cl : Nat) (w : World) : Calls Try.prog 63 #[.agg #[.int .i64 c.hosts, .int .i64 c.cycle, .int .i64 c.delay, .int .i64 c.window, .int .i64 c.precision, .slice D nd cd, .slice E ne ce, .slice L nl cl, .int .i64 c.queue]] w fun r w' => r = .returned (.int .i64 (quiet c)) ∧ Below w.heap.size w w' := by
  have H1 := fun W => timed_any c D E L nd cd ne ce nl cl W
  cases hs : spans c
  · have e : quiet c = 0 := by unfold quiet; rw [hs]; rfl
    rw [e]
    rw [hs] at H1
    clear e hs
    go_enter Try.func63, Try.ntmps63
    go_wp2_with fail
    refine (H1 _).mono ?_
    rintro r w1 ⟨rfl, hb⟩
    obtain ⟨X, -⟩ := (CX.start.next hb).s
    clear hb
    go_wp2
    go_ret
    exact ⟨rfl, X.out.b⟩
  · have e : quiet c = 2 * c.delay + c.window + 4 * c.precision := by unfold quiet; rw [hs]; rfl
    rw [e]
    rw [hs] at H1
    obtain ⟨g1, g2, g3⟩ := spansT_iff.1 (spans_iff.1 hs).2
    have k1 : IntKind.i64.wrap (2 * c.delay) = 2 * c.delay := i64_id (by omega) (by omega)
    have k2 : IntKind.i64.wrap (2 * c.delay + c.window) = 2 * c.delay + c.window := i64_id (by omega) (by omega)
    have k3 : IntKind.i64.wrap (4 * c.precision) = 4 * c.precision := i64_id (by omega) (by omega)
    have k4 : IntKind.i64.wrap (2 * c.delay + c.window + 4 * c.precision) = 2 * c.delay + c.window + 4 * c.precision := i64_id (by omega) (by omega)
    clear e hs g1 g2 g3
    go_enter Try.func63, Try.ntmps63
    go_wp2_with fail
    refine (H1 _).mono ?_
    rintro r w1 ⟨rfl, hb⟩
    obtain ⟨X, a0, a1, a2, a3, a4, a5, a6, a7, a8⟩ := (CX.start.next hb).s
    clear hb
    go_wp2
    go_ret
    exact ⟨rfl, X.out.b⟩
set_option maxHeartbeats 1000000 in
theorem forward_any (c : Cfg) (D E L : Option Addr) (nd cd ne ce nl cl : Nat) (e : R4) (w : World) (he : e.b < 4294967296) : Calls Try.prog 30 #[.agg #[.int .i64 c.hosts, .int .i64 c.cycle, .int .i64 c.delay, .int .i64 c.window, .int .i64 c.precision, .slice D nd cd, .slice E ne ce, .slice L nl cl, .int .i64 c.queue], .agg #[.int .i64 e.a, .int .u32 e.b, .int .i64 e.c, .int .i64 e.d]] w fun r w' => r = .returned (.int .i64 (fwd c e)) ∧ Below w.heap.size w w' := by
  have H1 := fun W => placed_any c D E L nd cd ne ce nl cl e W he
  cases hs : placed c e
  · have q : fwd c e = 0 := by unfold fwd; rw [hs]; rfl
    rw [q]
    rw [hs] at H1
    clear q hs
    go_enter Try.func30, Try.ntmps30
    go_wp2_with fail
    refine (H1 _).mono ?_
    rintro r w1 ⟨rfl, hb⟩
    obtain ⟨X, -⟩ := (BX.start.next hb).s
    clear hb
    go_wp2
    go_ret
    exact ⟨rfl, X.out.b⟩
  · have q : fwd c e = e.c + tim e.d + c.delay + 2 * c.precision := by unfold fwd; rw [hs]; rfl
    rw [q]
    rw [hs] at H1
    obtain ⟨hs1, -, hp1, hp2⟩ := placed_iff.1 hs
    obtain ⟨g1, g2, g3⟩ := spansT_iff.1 (spans_iff.1 hs1).2
    have ht := tim_pos e.d
    have H2 := Lib.hid (show ∀ W, (Hid (BX w c D E L nd cd ne ce nl cl e W) ∧ W.cell? ⟨w.heap.size, 0, none⟩ = some (.int .i64 c.hosts) ∧ W.cell? ⟨w.heap.size, 1, none⟩ = some (.int .i64 c.cycle) ∧ W.cell? ⟨w.heap.size, 2, none⟩ = some (.int .i64 c.delay) ∧ W.cell? ⟨w.heap.size, 3, none⟩ = some (.int .i64 c.window) ∧ W.cell? ⟨w.heap.size, 4, none⟩ = some (.int .i64 c.precision) ∧ W.cell? ⟨w.heap.size, 5, none⟩ = some (.slice D nd cd) ∧ W.cell? ⟨w.heap.size, 6, none⟩ = some (.slice E ne ce) ∧ W.cell? ⟨w.heap.size, 7, none⟩ = some (.slice L nl cl) ∧ W.cell? ⟨w.heap.size, 8, none⟩ = some (.int .i64 c.queue) ∧ W.cell? ⟨w.heap.size + 1, 0, none⟩ = some (.int .i64 e.a) ∧ W.cell? ⟨w.heap.size + 1, 1, none⟩ = some (.int .u32 e.b) ∧ W.cell? ⟨w.heap.size + 1, 2, none⟩ = some (.int .i64 e.c) ∧ W.cell? ⟨w.heap.size + 1, 3, none⟩ = some (.int .i64 e.d)) → Calls Try.prog 56 #[.agg #[.int .i64 e.a, .int .u32 e.b, .int .i64 e.c, .int .i64 e.d]] W fun r W' => r = .returned (.int .i64 (tim e.d)) ∧ (Hid (BX w c D E L nd cd ne ce nl cl e W') ∧ W'.cell? ⟨w.heap.size, 0, none⟩ = some (.int .i64 c.hosts) ∧ W'.cell? ⟨w.heap.size, 1, none⟩ = some (.int .i64 c.cycle) ∧ W'.cell? ⟨w.heap.size, 2, none⟩ = some (.int .i64 c.delay) ∧ W'.cell? ⟨w.heap.size, 3, none⟩ = some (.int .i64 c.window) ∧ W'.cell? ⟨w.heap.size, 4, none⟩ = some (.int .i64 c.precision) ∧ W'.cell? ⟨w.heap.size, 5, none⟩ = some (.slice D nd cd) ∧ W'.cell? ⟨w.heap.size, 6, none⟩ = some (.slice E ne ce) ∧ W'.cell? ⟨w.heap.size, 7, none⟩ = some (.slice L nl cl) ∧ W'.cell? ⟨w.heap.size, 8, none⟩ = some (.int .i64 c.queue) ∧ W'.cell? ⟨w.heap.size + 1, 0, none⟩ = some (.int .i64 e.a) ∧ W'.cell? ⟨w.heap.size + 1, 1, none⟩ = some (.int .u32 e.b) ∧ W'.cell? ⟨w.heap.size + 1, 2, none⟩ = some (.int .i64 e.c) ∧ W'.cell? ⟨w.heap.size + 1, 3, none⟩ = some (.int .i64 e.d)) from fun W hS => (wireTime_any e W).mono fun r W' ⟨hr, hb⟩ => ⟨hr, (hS.1.out.next hb).s⟩)
    generalize tim e.d = t at *
    have k1 : IntKind.i64.wrap (e.c + t) = e.c + t := i64_id (by omega) (by omega)
    have k2 : IntKind.i64.wrap (e.c + t + c.delay) = e.c + t + c.delay := i64_id (by omega) (by omega)
    have k3 : IntKind.i64.wrap (2 * c.precision) = 2 * c.precision := i64_id (by omega) (by omega)
    have k4 : IntKind.i64.wrap (e.c + t + c.delay + 2 * c.precision) = e.c + t + c.delay + 2 * c.precision := i64_id (by omega) (by omega)
    clear q hs g1 g2 g3 hs1 hp1 hp2 ht
    go_enter Try.func30, Try.ntmps30
    go_wp2_with fail
    refine (H1 _).mono ?_
    rintro r w1 ⟨rfl, hb⟩
    have X := Lib.hid (BX.start.next hb)
    obtain ⟨-, a0, a1, a2, a3, a4, a5, a6, a7, a8, d0, d1, d2, d3⟩ := X.out.s
    clear hb
    go_wp2_with fail
    go_region_held3 (fun W : World => Hid (BX w c D E L nd cd ne ce nl cl e W) ∧ W.cell? ⟨w.heap.size, 0, none⟩ = some (.int .i64 c.hosts) ∧ W.cell? ⟨w.heap.size, 1, none⟩ = some (.int .i64 c.cycle) ∧ W.cell? ⟨w.heap.size, 2, none⟩ = some (.int .i64 c.delay) ∧ W.cell? ⟨w.heap.size, 3, none⟩ = some (.int .i64 c.window) ∧ W.cell? ⟨w.heap.size, 4, none⟩ = some (.int .i64 c.precision) ∧ W.cell? ⟨w.heap.size, 5, none⟩ = some (.slice D nd cd) ∧ W.cell? ⟨w.heap.size, 6, none⟩ = some (.slice E ne ce) ∧ W.cell? ⟨w.heap.size, 7, none⟩ = some (.slice L nl cl) ∧ W.cell? ⟨w.heap.size, 8, none⟩ = some (.int .i64 c.queue) ∧ W.cell? ⟨w.heap.size + 1, 0, none⟩ = some (.int .i64 e.a) ∧ W.cell? ⟨w.heap.size + 1, 1, none⟩ = some (.int .u32 e.b) ∧ W.cell? ⟨w.heap.size + 1, 2, none⟩ = some (.int .i64 e.c) ∧ W.cell? ⟨w.heap.size + 1, 3, none⟩ = some (.int .i64 e.d)) (first | exact X.out.drew.s | assumption) (first
      | (go_at_call 56; (with_reducible refine (H2.out _ (by assumption)).mono ?_); rintro r w9 ⟨rfl, hs9⟩))
    rename_i hS
    have Y := hS.1
    clear hS
    go_wp2
    go_ret
    exact ⟨rfl, Y.out.b⟩
set_option maxHeartbeats 1000000 in
theorem early_any (c : Cfg) (D E L : Option Addr) (nd cd ne ce nl cl : Nat) (e : R4) (w : World) (he : e.b < 4294967296) : Calls Try.prog 31 #[.agg #[.int .i64 c.hosts, .int .i64 c.cycle, .int .i64 c.delay, .int .i64 c.window, .int .i64 c.precision, .slice D nd cd, .slice E ne ce, .slice L nl cl, .int .i64 c.queue], .agg #[.int .i64 e.a, .int .u32 e.b, .int .i64 e.c, .int .i64 e.d]] w fun r w' => r = .returned (.int .i64 (ear c e)) ∧ Below w.heap.size w w' := by
  have H1 := fun W => placed_any c D E L nd cd ne ce nl cl e W he
  cases hs : placed c e
  · have q : ear c e = 0 := by unfold ear; rw [hs]; rfl
    rw [q]
    rw [hs] at H1
    clear q hs
    go_enter Try.func31, Try.ntmps31
    go_wp2_with fail
    refine (H1 _).mono ?_
    rintro r w1 ⟨rfl, hb⟩
    obtain ⟨X, -⟩ := (BX.start.next hb).s
    clear hb
    go_wp2
    go_ret
    exact ⟨rfl, X.out.b⟩
  · have q : ear c e = fwd c e + tim e.d - c.precision := by unfold ear fwd; rw [hs]; rfl
    rw [q]
    rw [hs] at H1
    obtain ⟨hs1, -, hp1, hp2⟩ := placed_iff.1 hs
    obtain ⟨g1, g2, g3⟩ := spansT_iff.1 (spans_iff.1 hs1).2
    have ht := tim_pos e.d
    have hf : fwd c e = e.c + tim e.d + c.delay + 2 * c.precision := by unfold fwd; rw [hs]; rfl
    have H2 := Lib.hid (show ∀ W, (Hid (BX w c D E L nd cd ne ce nl cl e W) ∧ W.cell? ⟨w.heap.size, 0, none⟩ = some (.int .i64 c.hosts) ∧ W.cell? ⟨w.heap.size, 1, none⟩ = some (.int .i64 c.cycle) ∧ W.cell? ⟨w.heap.size, 2, none⟩ = some (.int .i64 c.delay) ∧ W.cell? ⟨w.heap.size, 3, none⟩ = some (.int .i64 c.window) ∧ W.cell? ⟨w.heap.size, 4, none⟩ = some (.int .i64 c.precision) ∧ W.cell? ⟨w.heap.size, 5, none⟩ = some (.slice D nd cd) ∧ W.cell? ⟨w.heap.size, 6, none⟩ = some (.slice E ne ce) ∧ W.cell? ⟨w.heap.size, 7, none⟩ = some (.slice L nl cl) ∧ W.cell? ⟨w.heap.size, 8, none⟩ = some (.int .i64 c.queue) ∧ W.cell? ⟨w.heap.size + 1, 0, none⟩ = some (.int .i64 e.a) ∧ W.cell? ⟨w.heap.size + 1, 1, none⟩ = some (.int .u32 e.b) ∧ W.cell? ⟨w.heap.size + 1, 2, none⟩ = some (.int .i64 e.c) ∧ W.cell? ⟨w.heap.size + 1, 3, none⟩ = some (.int .i64 e.d)) → Calls Try.prog 56 #[.agg #[.int .i64 e.a, .int .u32 e.b, .int .i64 e.c, .int .i64 e.d]] W fun r W' => r = .returned (.int .i64 (tim e.d)) ∧ (Hid (BX w c D E L nd cd ne ce nl cl e W') ∧ W'.cell? ⟨w.heap.size, 0, none⟩ = some (.int .i64 c.hosts) ∧ W'.cell? ⟨w.heap.size, 1, none⟩ = some (.int .i64 c.cycle) ∧ W'.cell? ⟨w.heap.size, 2, none⟩ = some (.int .i64 c.delay) ∧ W'.cell? ⟨w.heap.size, 3, none⟩ = some (.int .i64 c.window) ∧ W'.cell? ⟨w.heap.size, 4, none⟩ = some (.int .i64 c.precision) ∧ W'.cell? ⟨w.heap.size, 5, none⟩ = some (.slice D nd cd) ∧ W'.cell? ⟨w.heap.size, 6, none⟩ = some (.slice E ne ce) ∧ W'.cell? ⟨w.heap.size, 7, none⟩ = some (.slice L nl cl) ∧ W'.cell? ⟨w.heap.size, 8, none⟩ = some (.int .i64 c.queue) ∧ W'.cell? ⟨w.heap.size + 1, 0, none⟩ = some (.int .i64 e.a) ∧ W'.cell? ⟨w.heap.size + 1, 1, none⟩ = some (.int .u32 e.b) ∧ W'.cell? ⟨w.heap.size + 1, 2, none⟩ = some (.int .i64 e.c) ∧ W'.cell? ⟨w.heap.size + 1, 3, none⟩ = some (.int .i64 e.d)) from fun W hS => (wireTime_any e W).mono fun r W' ⟨hr, hb⟩ => ⟨hr, (hS.1.out.next hb).s⟩)
    have H3 := Lib.hid (show ∀ W, (Hid (BX w c D E L nd cd ne ce nl cl e W) ∧ W.cell? ⟨w.heap.size, 0, none⟩ = some (.int .i64 c.hosts) ∧ W.cell? ⟨w.heap.size, 1, none⟩ = some (.int .i64 c.cycle) ∧ W.cell? ⟨w.heap.size, 2, none⟩ = some (.int .i64 c.delay) ∧ W.cell? ⟨w.heap.size, 3, none⟩ = some (.int .i64 c.window) ∧ W.cell? ⟨w.heap.size, 4, none⟩ = some (.int .i64 c.precision) ∧ W.cell? ⟨w.heap.size, 5, none⟩ = some (.slice D nd cd) ∧ W.cell? ⟨w.heap.size, 6, none⟩ = some (.slice E ne ce) ∧ W.cell? ⟨w.heap.size, 7, none⟩ = some (.slice L nl cl) ∧ W.cell? ⟨w.heap.size, 8, none⟩ = some (.int .i64 c.queue) ∧ W.cell? ⟨w.heap.size + 1, 0, none⟩ = some (.int .i64 e.a) ∧ W.cell? ⟨w.heap.size + 1, 1, none⟩ = some (.int .u32 e.b) ∧ W.cell? ⟨w.heap.size + 1, 2, none⟩ = some (.int .i64 e.c) ∧ W.cell? ⟨w.heap.size + 1, 3, none⟩ = some (.int .i64 e.d)) → Calls Try.prog 30 #[.agg #[.int .i64 c.hosts, .int .i64 c.cycle, .int .i64 c.delay, .int .i64 c.window, .int .i64 c.precision, .slice D nd cd, .slice E ne ce, .slice L nl cl, .int .i64 c.queue], .agg #[.int .i64 e.a, .int .u32 e.b, .int .i64 e.c, .int .i64 e.d]] W fun r W' => r = .returned (.int .i64 (fwd c e)) ∧ (Hid (BX w c D E L nd cd ne ce nl cl e W') ∧ W'.cell? ⟨w.heap.size, 0, none⟩ = some (.int .i64 c.hosts) ∧ W'.cell? ⟨w.heap.size, 1, none⟩ = some (.int .i64 c.cycle) ∧ W'.cell? ⟨w.heap.size, 2, none⟩ = some (.int .i64 c.delay) ∧ W'.cell? ⟨w.heap.size, 3, none⟩ = some (.int .i64 c.window) ∧ W'.cell? ⟨w.heap.size, 4, none⟩ = some (.int .i64 c.precision) ∧ W'.cell? ⟨w.heap.size, 5, none⟩ = some (.slice D nd cd) ∧ W'.cell? ⟨w.heap.size, 6, none⟩ = some (.slice E ne ce) ∧ W'.cell? ⟨w.heap.size, 7, none⟩ = some (.slice L nl cl) ∧ W'.cell? ⟨w.heap.size, 8, none⟩ = some (.int .i64 c.queue) ∧ W'.cell? ⟨w.heap.size + 1, 0, none⟩ = some (.int .i64 e.a) ∧ W'.cell? ⟨w.heap.size + 1, 1, none⟩ = some (.int .u32 e.b) ∧ W'.cell? ⟨w.heap.size + 1, 2, none⟩ = some (.int .i64 e.c) ∧ W'.cell? ⟨w.heap.size + 1, 3, none⟩ = some (.int .i64 e.d)) from fun W hS => (forward_any c D E L nd cd ne ce nl cl e W he).mono fun r W' ⟨hr, hb⟩ => ⟨hr, (hS.1.out.next hb).s⟩)
    generalize tim e.d = t at *
    generalize fwd c e = f at *
    have k0 : IntKind.i64.wrap (f + t) = f + t := i64_id (by omega) (by omega)
    have k1 : IntKind.i64.wrap (f + t - c.precision) = f + t - c.precision := i64_id (by omega) (by omega)
    clear q hs g1 g2 g3 hs1 hp1 hp2 ht hf
    go_enter Try.func31, Try.ntmps31
    go_wp2_with fail
    refine (H1 _).mono ?_
    rintro r w1 ⟨rfl, hb⟩
    have X := Lib.hid (BX.start.next hb)
    obtain ⟨-, a0, a1, a2, a3, a4, a5, a6, a7, a8, d0, d1, d2, d3⟩ := X.out.s
    clear hb
    go_wp2_with fail
    go_region_held3 (fun W : World => Hid (BX w c D E L nd cd ne ce nl cl e W) ∧ W.cell? ⟨w.heap.size, 0, none⟩ = some (.int .i64 c.hosts) ∧ W.cell? ⟨w.heap.size, 1, none⟩ = some (.int .i64 c.cycle) ∧ W.cell? ⟨w.heap.size, 2, none⟩ = some (.int .i64 c.delay) ∧ W.cell? ⟨w.heap.size, 3, none⟩ = some (.int .i64 c.window) ∧ W.cell? ⟨w.heap.size, 4, none⟩ = some (.int .i64 c.precision) ∧ W.cell? ⟨w.heap.size, 5, none⟩ = some (.slice D nd cd) ∧ W.cell? ⟨w.heap.size, 6, none⟩ = some (.slice E ne ce) ∧ W.cell? ⟨w.heap.size, 7, none⟩ = some (.slice L nl cl) ∧ W.cell? ⟨w.heap.size, 8, none⟩ = some (.int .i64 c.queue) ∧ W.cell? ⟨w.heap.size + 1, 0, none⟩ = some (.int .i64 e.a) ∧ W.cell? ⟨w.heap.size + 1, 1, none⟩ = some (.int .u32 e.b) ∧ W.cell? ⟨w.heap.size + 1, 2, none⟩ = some (.int .i64 e.c) ∧ W.cell? ⟨w.heap.size + 1, 3, none⟩ = some (.int .i64 e.d)) (first | exact X.out.drew.s | assumption) (first
      | (go_at_call 56; (with_reducible refine (H2.out _ (by assumption)).mono ?_); rintro r w9 ⟨rfl, hs9⟩)
      | (go_at_call 30; (with_reducible refine (H3.out _ (by assumption)).mono ?_); rintro r w9 ⟨rfl, hs9⟩))
    rename_i hS
    have Y := hS.1
    clear hS
    go_wp2
    go_ret
    exact ⟨rfl, Y.out.b⟩
set_option maxHeartbeats 1000000 in
theorem late_any (c : Cfg) (D E L : Option Addr) (nd cd ne ce nl cl : Nat) (e : R4) (w : World) (he : e.b < 4294967296) : Calls Try.prog 32 #[.agg #[.int .i64 c.hosts, .int .i64 c.cycle, .int .i64 c.delay, .int .i64 c.window, .int .i64 c.precision, .slice D nd cd, .slice E ne ce, .slice L nl cl, .int .i64 c.queue], .agg #[.int .i64 e.a, .int .u32 e.b, .int .i64 e.c, .int .i64 e.d]] w fun r w' => r = .returned (.int .i64 (lat c e)) ∧ Below w.heap.size w w' := by
  have H1 := fun W => placed_any c D E L nd cd ne ce nl cl e W he
  cases hs : placed c e
  · have q : lat c e = 0 := by unfold lat; rw [hs]; rfl
    rw [q]
    rw [hs] at H1
    clear q hs
    go_enter Try.func32, Try.ntmps32
    go_wp2_with fail
    refine (H1 _).mono ?_
    rintro r w1 ⟨rfl, hb⟩
    obtain ⟨X, -⟩ := (BX.start.next hb).s
    clear hb
    go_wp2
    go_ret
    exact ⟨rfl, X.out.b⟩
  · have q : lat c e = fwd c e + tim e.d + c.delay + c.precision := by unfold lat fwd; rw [hs]; rfl
    rw [q]
    rw [hs] at H1
    obtain ⟨hs1, -, hp1, hp2⟩ := placed_iff.1 hs
    obtain ⟨g1, g2, g3⟩ := spansT_iff.1 (spans_iff.1 hs1).2
    have ht := tim_pos e.d
    have hf : fwd c e = e.c + tim e.d + c.delay + 2 * c.precision := by unfold fwd; rw [hs]; rfl
    have H2 := Lib.hid (show ∀ W, (Hid (BX w c D E L nd cd ne ce nl cl e W) ∧ W.cell? ⟨w.heap.size, 0, none⟩ = some (.int .i64 c.hosts) ∧ W.cell? ⟨w.heap.size, 1, none⟩ = some (.int .i64 c.cycle) ∧ W.cell? ⟨w.heap.size, 2, none⟩ = some (.int .i64 c.delay) ∧ W.cell? ⟨w.heap.size, 3, none⟩ = some (.int .i64 c.window) ∧ W.cell? ⟨w.heap.size, 4, none⟩ = some (.int .i64 c.precision) ∧ W.cell? ⟨w.heap.size, 5, none⟩ = some (.slice D nd cd) ∧ W.cell? ⟨w.heap.size, 6, none⟩ = some (.slice E ne ce) ∧ W.cell? ⟨w.heap.size, 7, none⟩ = some (.slice L nl cl) ∧ W.cell? ⟨w.heap.size, 8, none⟩ = some (.int .i64 c.queue) ∧ W.cell? ⟨w.heap.size + 1, 0, none⟩ = some (.int .i64 e.a) ∧ W.cell? ⟨w.heap.size + 1, 1, none⟩ = some (.int .u32 e.b) ∧ W.cell? ⟨w.heap.size + 1, 2, none⟩ = some (.int .i64 e.c) ∧ W.cell? ⟨w.heap.size + 1, 3, none⟩ = some (.int .i64 e.d)) → Calls Try.prog 56 #[.agg #[.int .i64 e.a, .int .u32 e.b, .int .i64 e.c, .int .i64 e.d]] W fun r W' => r = .returned (.int .i64 (tim e.d)) ∧ (Hid (BX w c D E L nd cd ne ce nl cl e W') ∧ W'.cell? ⟨w.heap.size, 0, none⟩ = some (.int .i64 c.hosts) ∧ W'.cell? ⟨w.heap.size, 1, none⟩ = some (.int .i64 c.cycle) ∧ W'.cell? ⟨w.heap.size, 2, none⟩ = some (.int .i64 c.delay) ∧ W'.cell? ⟨w.heap.size, 3, none⟩ = some (.int .i64 c.window) ∧ W'.cell? ⟨w.heap.size, 4, none⟩ = some (.int .i64 c.precision) ∧ W'.cell? ⟨w.heap.size, 5, none⟩ = some (.slice D nd cd) ∧ W'.cell? ⟨w.heap.size, 6, none⟩ = some (.slice E ne ce) ∧ W'.cell? ⟨w.heap.size, 7, none⟩ = some (.slice L nl cl) ∧ W'.cell? ⟨w.heap.size, 8, none⟩ = some (.int .i64 c.queue) ∧ W'.cell? ⟨w.heap.size + 1, 0, none⟩ = some (.int .i64 e.a) ∧ W'.cell? ⟨w.heap.size + 1, 1, none⟩ = some (.int .u32 e.b) ∧ W'.cell? ⟨w.heap.size + 1, 2, none⟩ = some (.int .i64 e.c) ∧ W'.cell? ⟨w.heap.size + 1, 3, none⟩ = some (.int .i64 e.d)) from fun W hS => (wireTime_any e W).mono fun r W' ⟨hr, hb⟩ => ⟨hr, (hS.1.out.next hb).s⟩)
    have H3 := Lib.hid (show ∀ W, (Hid (BX w c D E L nd cd ne ce nl cl e W) ∧ W.cell? ⟨w.heap.size, 0, none⟩ = some (.int .i64 c.hosts) ∧ W.cell? ⟨w.heap.size, 1, none⟩ = some (.int .i64 c.cycle) ∧ W.cell? ⟨w.heap.size, 2, none⟩ = some (.int .i64 c.delay) ∧ W.cell? ⟨w.heap.size, 3, none⟩ = some (.int .i64 c.window) ∧ W.cell? ⟨w.heap.size, 4, none⟩ = some (.int .i64 c.precision) ∧ W.cell? ⟨w.heap.size, 5, none⟩ = some (.slice D nd cd) ∧ W.cell? ⟨w.heap.size, 6, none⟩ = some (.slice E ne ce) ∧ W.cell? ⟨w.heap.size, 7, none⟩ = some (.slice L nl cl) ∧ W.cell? ⟨w.heap.size, 8, none⟩ = some (.int .i64 c.queue) ∧ W.cell? ⟨w.heap.size + 1, 0, none⟩ = some (.int .i64 e.a) ∧ W.cell? ⟨w.heap.size + 1, 1, none⟩ = some (.int .u32 e.b) ∧ W.cell? ⟨w.heap.size + 1, 2, none⟩ = some (.int .i64 e.c) ∧ W.cell? ⟨w.heap.size + 1, 3, none⟩ = some (.int .i64 e.d)) → Calls Try.prog 30 #[.agg #[.int .i64 c.hosts, .int .i64 c.cycle, .int .i64 c.delay, .int .i64 c.window, .int .i64 c.precision, .slice D nd cd, .slice E ne ce, .slice L nl cl, .int .i64 c.queue], .agg #[.int .i64 e.a, .int .u32 e.b, .int .i64 e.c, .int .i64 e.d]] W fun r W' => r = .returned (.int .i64 (fwd c e)) ∧ (Hid (BX w c D E L nd cd ne ce nl cl e W') ∧ W'.cell? ⟨w.heap.size, 0, none⟩ = some (.int .i64 c.hosts) ∧ W'.cell? ⟨w.heap.size, 1, none⟩ = some (.int .i64 c.cycle) ∧ W'.cell? ⟨w.heap.size, 2, none⟩ = some (.int .i64 c.delay) ∧ W'.cell? ⟨w.heap.size, 3, none⟩ = some (.int .i64 c.window) ∧ W'.cell? ⟨w.heap.size, 4, none⟩ = some (.int .i64 c.precision) ∧ W'.cell? ⟨w.heap.size, 5, none⟩ = some (.slice D nd cd) ∧ W'.cell? ⟨w.heap.size, 6, none⟩ = some (.slice E ne ce) ∧ W'.cell? ⟨w.heap.size, 7, none⟩ = some (.slice L nl cl) ∧ W'.cell? ⟨w.heap.size, 8, none⟩ = some (.int .i64 c.queue) ∧ W'.cell? ⟨w.heap.size + 1, 0, none⟩ = some (.int .i64 e.a) ∧ W'.cell? ⟨w.heap.size + 1, 1, none⟩ = some (.int .u32 e.b) ∧ W'.cell? ⟨w.heap.size + 1, 2, none⟩ = some (.int .i64 e.c) ∧ W'.cell? ⟨w.heap.size + 1, 3, none⟩ = some (.int .i64 e.d)) from fun W hS => (forward_any c D E L nd cd ne ce nl cl e W he).mono fun r W' ⟨hr, hb⟩ => ⟨hr, (hS.1.out.next hb).s⟩)
    generalize tim e.d = t at *
    generalize fwd c e = f at *
    have k0 : IntKind.i64.wrap (f + t) = f + t := i64_id (by omega) (by omega)
    have k1 : IntKind.i64.wrap (f + t + c.delay) = f + t + c.delay := i64_id (by omega) (by omega)
    have k2 : IntKind.i64.wrap (f + t + c.delay + c.precision) = f + t + c.delay + c.precision := i64_id (by omega) (by omega)
    clear q hs g1 g2 g3 hs1 hp1 hp2 ht hf
    go_enter Try.func32, Try.ntmps32
    go_wp2_with fail
    refine (H1 _).mono ?_
    rintro r w1 ⟨rfl, hb⟩
    have X := Lib.hid (BX.start.next hb)
    obtain ⟨-, a0, a1, a2, a3, a4, a5, a6, a7, a8, d0, d1, d2, d3⟩ := X.out.s
    clear hb
    go_wp2_with fail
    go_region_held3 (fun W : World => Hid (BX w c D E L nd cd ne ce nl cl e W) ∧ W.cell? ⟨w.heap.size, 0, none⟩ = some (.int .i64 c.hosts) ∧ W.cell? ⟨w.heap.size, 1, none⟩ = some (.int .i64 c.cycle) ∧ W.cell? ⟨w.heap.size, 2, none⟩ = some (.int .i64 c.delay) ∧ W.cell? ⟨w.heap.size, 3, none⟩ = some (.int .i64 c.window) ∧ W.cell? ⟨w.heap.size, 4, none⟩ = some (.int .i64 c.precision) ∧ W.cell? ⟨w.heap.size, 5, none⟩ = some (.slice D nd cd) ∧ W.cell? ⟨w.heap.size, 6, none⟩ = some (.slice E ne ce) ∧ W.cell? ⟨w.heap.size, 7, none⟩ = some (.slice L nl cl) ∧ W.cell? ⟨w.heap.size, 8, none⟩ = some (.int .i64 c.queue) ∧ W.cell? ⟨w.heap.size + 1, 0, none⟩ = some (.int .i64 e.a) ∧ W.cell? ⟨w.heap.size + 1, 1, none⟩ = some (.int .u32 e.b) ∧ W.cell? ⟨w.heap.size + 1, 2, none⟩ = some (.int .i64 e.c) ∧ W.cell? ⟨w.heap.size + 1, 3, none⟩ = some (.int .i64 e.d)) (first | exact X.out.drew.s | assumption) (first
      | (go_at_call 56; (with_reducible refine (H2.out _ (by assumption)).mono ?_); rintro r w9 ⟨rfl, hs9⟩)
      | (go_at_call 30; (with_reducible refine (H3.out _ (by assumption)).mono ?_); rintro r w9 ⟨rfl, hs9⟩))
    rename_i hS
    have Y := hS.1
    clear hS
    go_wp2
    go_ret
    exact ⟨rfl, Y.out.b⟩
set_option maxHeartbeats 1000000 in
theorem at_any (c : Cfg) (D E L : Option Addr) (nd cd ne ce nl cl : Nat) (e : R4) (w : World) (he : e.b < 4294967296) : Calls Try.prog 29 #[.agg #[.int .i64 c.hosts, .int .i64 c.cycle, .int .i64 c.delay, .int .i64 c.window, .int .i64 c.precision, .slice D nd cd, .slice E ne ce, .slice L nl cl, .int .i64 c.queue], .agg #[.int .i64 e.a, .int .u32 e.b, .int .i64 e.c, .int .i64 e.d]] w fun r w' => r = .returned (.tuple #[.int .i64 (at0 c e), .int .i64 (at1 c e)]) ∧ Below w.heap.size w w' := by
  have H1 := fun W => placed_any c D E L nd cd ne ce nl cl e W he
  cases hs : placed c e
  · have q : at0 c e = 0 := by unfold at0; rw [hs]; rfl
    have q1 : at1 c e = 0 := by unfold at1; rw [hs]; rfl
    rw [q, q1]
    rw [hs] at H1
    clear q q1 hs
    go_enter Try.func29, Try.ntmps29
    go_wp2_with fail
    refine (H1 _).mono ?_
    rintro r w1 ⟨rfl, hb⟩
    obtain ⟨X, -⟩ := (BX.start.next hb).s
    clear hb
    go_wp2
    go_ret2
    exact ⟨rfl, X.out.b⟩
  · have q : at0 c e = e.c + tim e.d - c.precision := by unfold at0; rw [hs]; rfl
    have q1 : at1 c e = e.c + tim e.d + c.delay + c.precision := by unfold at1; rw [hs]; rfl
    rw [q, q1]
    rw [hs] at H1
    obtain ⟨hs1, -, hp1, hp2⟩ := placed_iff.1 hs
    obtain ⟨g1, g2, g3⟩ := spansT_iff.1 (spans_iff.1 hs1).2
    have ht := tim_pos e.d
    have H2 := Lib.hid (show ∀ W, (Hid (BX w c D E L nd cd ne ce nl cl e W) ∧ W.cell? ⟨w.heap.size, 0, none⟩ = some (.int .i64 c.hosts) ∧ W.cell? ⟨w.heap.size, 1, none⟩ = some (.int .i64 c.cycle) ∧ W.cell? ⟨w.heap.size, 2, none⟩ = some (.int .i64 c.delay) ∧ W.cell? ⟨w.heap.size, 3, none⟩ = some (.int .i64 c.window) ∧ W.cell? ⟨w.heap.size, 4, none⟩ = some (.int .i64 c.precision) ∧ W.cell? ⟨w.heap.size, 5, none⟩ = some (.slice D nd cd) ∧ W.cell? ⟨w.heap.size, 6, none⟩ = some (.slice E ne ce) ∧ W.cell? ⟨w.heap.size, 7, none⟩ = some (.slice L nl cl) ∧ W.cell? ⟨w.heap.size, 8, none⟩ = some (.int .i64 c.queue) ∧ W.cell? ⟨w.heap.size + 1, 0, none⟩ = some (.int .i64 e.a) ∧ W.cell? ⟨w.heap.size + 1, 1, none⟩ = some (.int .u32 e.b) ∧ W.cell? ⟨w.heap.size + 1, 2, none⟩ = some (.int .i64 e.c) ∧ W.cell? ⟨w.heap.size + 1, 3, none⟩ = some (.int .i64 e.d)) → Calls Try.prog 56 #[.agg #[.int .i64 e.a, .int .u32 e.b, .int .i64 e.c, .int .i64 e.d]] W fun r W' => r = .returned (.int .i64 (tim e.d)) ∧ (Hid (BX w c D E L nd cd ne ce nl cl e W') ∧ W'.cell? ⟨w.heap.size, 0, none⟩ = some (.int .i64 c.hosts) ∧ W'.cell? ⟨w.heap.size, 1, none⟩ = some (.int .i64 c.cycle) ∧ W'.cell? ⟨w.heap.size, 2, none⟩ = some (.int .i64 c.delay) ∧ W'.cell? ⟨w.heap.size, 3, none⟩ = some (.int .i64 c.window) ∧ W'.cell? ⟨w.heap.size, 4, none⟩ = some (.int .i64 c.precision) ∧ W'.cell? ⟨w.heap.size, 5, none⟩ = some (.slice D nd cd) ∧ W'.cell? ⟨w.heap.size, 6, none⟩ = some (.slice E ne ce) ∧ W'.cell? ⟨w.heap.size, 7, none⟩ = some (.slice L nl cl) ∧ W'.cell? ⟨w.heap.size, 8, none⟩ = some (.int .i64 c.queue) ∧ W'.cell? ⟨w.heap.size + 1, 0, none⟩ = some (.int .i64 e.a) ∧ W'.cell? ⟨w.heap.size + 1, 1, none⟩ = some (.int .u32 e.b) ∧ W'.cell? ⟨w.heap.size + 1, 2, none⟩ = some (.int .i64 e.c) ∧ W'.cell? ⟨w.heap.size + 1, 3, none⟩ = some (.int .i64 e.d)) from fun W hS => (wireTime_any e W).mono fun r W' ⟨hr, hb⟩ => ⟨hr, (hS.1.out.next hb).s⟩)
    generalize tim e.d = t at *
    have k1 : IntKind.i64.wrap (e.c + t) = e.c + t := i64_id (by omega) (by omega)
    have k2 : IntKind.i64.wrap (e.c + t + c.delay) = e.c + t + c.delay := i64_id (by omega) (by omega)
    have k3 : IntKind.i64.wrap (e.c + t - c.precision) = e.c + t - c.precision := i64_id (by omega) (by omega)
    have k4 : IntKind.i64.wrap (e.c + t + c.delay + c.precision) = e.c + t + c.delay + c.precision := i64_id (by omega) (by omega)
    clear q q1 hs g1 g2 g3 hs1 hp1 hp2 ht
    go_enter Try.func29, Try.ntmps29
    go_wp2_with fail
    refine (H1 _).mono ?_
    rintro r w1 ⟨rfl, hb⟩
    have X := Lib.hid (BX.start.next hb)
    obtain ⟨-, a0, a1, a2, a3, a4, a5, a6, a7, a8, d0, d1, d2, d3⟩ := X.out.s
    clear hb
    go_wp2_with fail
    go_region_held3 (fun W : World => Hid (BX w c D E L nd cd ne ce nl cl e W) ∧ W.cell? ⟨w.heap.size, 0, none⟩ = some (.int .i64 c.hosts) ∧ W.cell? ⟨w.heap.size, 1, none⟩ = some (.int .i64 c.cycle) ∧ W.cell? ⟨w.heap.size, 2, none⟩ = some (.int .i64 c.delay) ∧ W.cell? ⟨w.heap.size, 3, none⟩ = some (.int .i64 c.window) ∧ W.cell? ⟨w.heap.size, 4, none⟩ = some (.int .i64 c.precision) ∧ W.cell? ⟨w.heap.size, 5, none⟩ = some (.slice D nd cd) ∧ W.cell? ⟨w.heap.size, 6, none⟩ = some (.slice E ne ce) ∧ W.cell? ⟨w.heap.size, 7, none⟩ = some (.slice L nl cl) ∧ W.cell? ⟨w.heap.size, 8, none⟩ = some (.int .i64 c.queue) ∧ W.cell? ⟨w.heap.size + 1, 0, none⟩ = some (.int .i64 e.a) ∧ W.cell? ⟨w.heap.size + 1, 1, none⟩ = some (.int .u32 e.b) ∧ W.cell? ⟨w.heap.size + 1, 2, none⟩ = some (.int .i64 e.c) ∧ W.cell? ⟨w.heap.size + 1, 3, none⟩ = some (.int .i64 e.d)) (first | exact X.out.drew.s | assumption) (first
      | (go_at_call 56; (with_reducible refine (H2.out _ (by assumption)).mono ?_); rintro r w9 ⟨rfl, hs9⟩))
    rename_i w2 hS
    have Y := Lib.hid hS.1.out
    clear hS a0 a1 a2 a3 a4 a5 a6 a7 a8 d0 d1 d2 d3
    go_wp2_with fail
    go_region_held3 (fun W : World => Hid (BX w c D E L nd cd ne ce nl cl e W) ∧ W.cell? ⟨w.heap.size, 0, none⟩ = some (.int .i64 c.hosts) ∧ W.cell? ⟨w.heap.size, 1, none⟩ = some (.int .i64 c.cycle) ∧ W.cell? ⟨w.heap.size, 2, none⟩ = some (.int .i64 c.delay) ∧ W.cell? ⟨w.heap.size, 3, none⟩ = some (.int .i64 c.window) ∧ W.cell? ⟨w.heap.size, 4, none⟩ = some (.int .i64 c.precision) ∧ W.cell? ⟨w.heap.size, 5, none⟩ = some (.slice D nd cd) ∧ W.cell? ⟨w.heap.size, 6, none⟩ = some (.slice E ne ce) ∧ W.cell? ⟨w.heap.size, 7, none⟩ = some (.slice L nl cl) ∧ W.cell? ⟨w.heap.size, 8, none⟩ = some (.int .i64 c.queue) ∧ W.cell? ⟨w.heap.size + 1, 0, none⟩ = some (.int .i64 e.a) ∧ W.cell? ⟨w.heap.size + 1, 1, none⟩ = some (.int .u32 e.b) ∧ W.cell? ⟨w.heap.size + 1, 2, none⟩ = some (.int .i64 e.c) ∧ W.cell? ⟨w.heap.size + 1, 3, none⟩ = some (.int .i64 e.d)) (first | exact Y.out.drew.s | assumption) (fail)
    rename_i hS
    have Z := hS.1
    clear hS
    go_wp2
    go_ret2
    exact ⟨rfl, Z.out.b⟩
end Go.Proofs.Ytdaoemjkefpmcaa.ConfW

