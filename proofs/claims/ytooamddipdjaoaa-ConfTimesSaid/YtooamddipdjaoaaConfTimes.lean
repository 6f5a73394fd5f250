/- tocsinlaw08.ConfTimes. -/
import Derived.Test.YtooamddipdjaoaaConfLay
import Derived.Test.YtooamddipdjaoaaConfM
namespace Go.Proofs.Ytooamddipdjaoaa.ConfW.ConfTimes
open Go.ChangeShapes Go.WideShapes Go.ChangeAt Go.RowKit Shell
theorem setg5 {W : World} {g : Nat} {t : TypeId} {a0 a1 a2 a3 a4 x0 x1 x2 x3 x4 : Value} (h : W.heap[g]? = some (.cells #[a0, a1, a2, a3, a4] t (0, 0))) :
    (((((W.setCell ⟨g, 0, none⟩ x0).setCell ⟨g, 1, none⟩ x1).setCell ⟨g, 2, none⟩ x2).setCell ⟨g, 3, none⟩ x3).setCell ⟨g, 4, none⟩ x4).heap[g]? = some (.cells #[x0, x1, x2, x3, x4] t (0, 0)) :=
  heap_setCell_same _ g 4 _ _ _ (heap_setCell_same _ g 3 _ _ _ (heap_setCell_same _ g 2 _ _ _ (heap_setCell_same _ g 1 _ _ _ (heap_setCell_same _ g 0 _ _ _ h))))
theorem keepg5 {w W : World} {g : Nat} {x0 x1 x2 x3 x4 : Value} (h : Below w.heap.size w W) (hg : w.heap.size ≤ g) :
    Below w.heap.size w (((((W.setCell ⟨g, 0, none⟩ x0).setCell ⟨g, 1, none⟩ x1).setCell ⟨g, 2, none⟩ x2).setCell ⟨g, 3, none⟩ x3).setCell ⟨g, 4, none⟩ x4) :=
  ((((h.setCell hg _).setCell hg _).setCell hg _).setCell hg _).setCell hg _
/-- The law's three boxes: the configuration, the entry, the five times. -/
structure TX (w0 : World) (g : Nat) (c : Cfg) (D E L : Option Addr) (nd cd ne ce nl cl : Nat) (e : R4) (t0 t1 t2 t3 t4 : Int) (w : World) : Prop where
  b : BX w0 c D E L nd cd ne ce nl cl e w
  z : w.heap[g]? = some (.cells #[.int .i64 t0, .int .i64 t1, .int .i64 t2, .int .i64 t3, .int .i64 t4] 33)
section
variable {w0 w w1 : World} {g : Nat} {c : Cfg} {D E L : Option Addr} {nd cd ne ce nl cl : Nat} {e : R4} {t0 t1 t2 t3 t4 : Int}
theorem TX.next (h : TX w0 g c D E L nd cd ne ce nl cl e t0 t1 t2 t3 t4 w) (b : Below w.heap.size w w1) : TX w0 g c D E L nd cd ne ce nl cl e t0 t1 t2 t3 t4 w1 := ⟨h.b.next b, row_below b h.z⟩
theorem TX.drew (h : TX w0 g c D E L nd cd ne ce nl cl e t0 t1 t2 t3 t4 w) : TX w0 g c D E L nd cd ne ce nl cl e t0 t1 t2 t3 t4 w.drew := h.next (Below.refl _ _).drew
theorem TX.s (h : TX w0 g c D E L nd cd ne ce nl cl e t0 t1 t2 t3 t4 w) : Hid (TX w0 g c D E L nd cd ne ce nl cl e t0 t1 t2 t3 t4 w) ∧ w.cell? ⟨w0.heap.size, 0, none⟩ = some (.int .i64 c.hosts) ∧ w.cell? ⟨w0.heap.size, 1, none⟩ = some (.int .i64 c.cycle) ∧ w.cell? ⟨w0.heap.size, 2, none⟩ = some (.int .i64 c.delay) ∧ w.cell? ⟨w0.heap.size, 3, none⟩ = some (.int .i64 c.window) ∧ w.cell? ⟨w0.heap.size, 4, none⟩ = some (.int .i64 c.precision) ∧ w.cell? ⟨w0.heap.size, 5, none⟩ = some (.slice D nd cd) ∧ w.cell? ⟨w0.heap.size, 6, none⟩ = some (.slice E ne ce) ∧ w.cell? ⟨w0.heap.size, 7, none⟩ = some (.slice L nl cl) ∧ w.cell? ⟨w0.heap.size, 8, none⟩ = some (.int .i64 c.queue) ∧ w.cell? ⟨w0.heap.size + 1, 0, none⟩ = some (.int .i64 e.a) ∧ w.cell? ⟨w0.heap.size + 1, 1, none⟩ = some (.int .u32 e.b) ∧ w.cell? ⟨w0.heap.size + 1, 2, none⟩ = some (.int .i64 e.c) ∧ w.cell? ⟨w0.heap.size + 1, 3, none⟩ = some (.int .i64 e.d) ∧ w.cell? ⟨g, 0, none⟩ = some (.int .i64 t0) ∧ w.cell? ⟨g, 1, none⟩ = some (.int .i64 t1) ∧ w.cell? ⟨g, 2, none⟩ = some (.int .i64 t2) ∧ w.cell? ⟨g, 3, none⟩ = some (.int .i64 t3) ∧ w.cell? ⟨g, 4, none⟩ = some (.int .i64 t4) := by
  obtain ⟨-, a0, a1, a2, a3, a4, a5, a6, a7, a8, d0, d1, d2, d3⟩ := h.b.s
  exact ⟨Lib.hid h, a0, a1, a2, a3, a4, a5, a6, a7, a8, d0, d1, d2, d3, box_cell h.z rfl, box_cell h.z rfl, box_cell h.z rfl, box_cell h.z rfl, box_cell h.z rfl⟩
end
set_option maxHeartbeats 8000000 in
set_option maxRecDepth 100000 in
theorem walk (c : Cfg) (D E L : Option Addr) (nd cd ne ce nl cl : Nat) (e : R4) (w : World) (he : e.b < 4294967296) : Calls Try.prog 4 #[.agg #[.int .i64 c.hosts, .int .i64 c.cycle, .int .i64 c.delay, .int .i64 c.window, .int .i64 c.precision, .slice D nd cd, .slice E ne ce, .slice L nl cl, .int .i64 c.queue], .agg #[.int .i64 e.a, .int .u32 e.b, .int .i64 e.c, .int .i64 e.d]] w fun r w' => r = .returned (.bool true) ∧ Below w.heap.size w w' := by
  have HX := Lib.hid (BX.start (w0 := w) (c := c) (D := D) (E := E) (L := L) (nd := nd) (cd := cd) (ne := ne) (ce := ce) (nl := nl) (cl := cl) (e := e))
  have HE := Lib.hid he
  have HPL := Lib.hid (fun W => plain_any c D E L nd cd ne ce nl cl e W he)
  have HT := Lib.hid (show placed c e = true → ∀ W, Calls Try.prog 14 #[.agg #[.int .i64 c.hosts, .int .i64 c.cycle, .int .i64 c.delay, .int .i64 c.window, .int .i64 c.precision, .slice D nd cd, .slice E ne ce, .slice L nl cl, .int .i64 c.queue], .agg #[.int .i64 e.a, .int .u32 e.b, .int .i64 e.c, .int .i64 e.d]] W fun r w' => r = .returned (.agg #[.int .i64 (at0 c e), .int .i64 (at1 c e), .int .i64 (fwd c e), .int .i64 (ear c e), .int .i64 (lat c e)]) ∧ Below W.heap.size W w' from fun hp W => by
    have h := times_any c D E L nd cd ne ce nl cl e W (placed_iff.1 hp).1 (placed_iff.1 hp).2.2
    rw [tms_placed hp] at h
    exact h)
  have HA := Lib.hid (fun W => at_any c D E L nd cd ne ce nl cl e W he)
  clear he
  go_enter Try.func4, Try.ntmps4
  go_wp2_with fail
  refine (fixed_any _).mono ?_
  rintro r w1 ⟨rfl, hb⟩
  have X1 := Lib.hid (HX.out.next hb)
  clear hb
  have Z9 := Lib.hid (heap_alloc_new w1 (.cells #[.int .i64 0, .int .i64 0, .int .i64 0, .int .i64 0, .int .i64 0] 33))
  have X2 := Lib.hid (show TX w w1.heap.size c D E L nd cd ne ce nl cl e 0 0 0 0 0 (w1.alloc (.cells #[.int .i64 0, .int .i64 0, .int .i64 0, .int .i64 0, .int .i64 0] 33)) from ⟨X1.out.next (al (Below.refl _ _) _), Z9.out⟩)
  obtain ⟨-, a0, a1, a2, a3, a4, a5, a6, a7, a8, a9, a10, a11, a12⟩ := X1.out.s
  obtain ⟨-, b0, b1, b2, b3, b4, b5, b6, b7, b8, b9, b10, b11, b12, b13, b14, b15, b16, b17⟩ := X2.out.s
  clear Z9
  go_wp2_with fail
  refine (HPL.out _).mono ?_
  rintro r w3 ⟨rfl, hb⟩
  have X3 := Lib.hid (X2.out.next hb)
  clear hb a0 a1 a2 a3 a4 a5 a6 a7 a8 a9 a10 a11 a12 b0 b1 b2 b3 b4 b5 b6 b7 b8 b9 b10 b11 b12 b13 b14 b15 b16 b17
  obtain ⟨g, hg⟩ : ∃ g, g = w1.heap.size := ⟨_, rfl⟩
  rw [← hg] at X3 ⊢
  have HGL := Lib.hid (show w.heap.size ≤ g by rw [hg]; exact X1.out.b.size)
  clear hg X2
  cases hp : placed c e
  · have q0 : at0 c e = 0 := by unfold at0; rw [hp]; rfl
    have q1 : at1 c e = 0 := by unfold at1; rw [hp]; rfl
    have q2 : fwd c e = 0 := by unfold fwd; rw [hp]; rfl
    have q3 : ear c e = 0 := by unfold ear; rw [hp]; rfl
    have q4 : lat c e = 0 := by unfold lat; rw [hp]; rfl
    obtain ⟨t0, h0⟩ : ∃ t0 : Int, t0 = 0 := ⟨_, rfl⟩
    obtain ⟨t1, h1⟩ : ∃ t1 : Int, t1 = 0 := ⟨_, rfl⟩
    obtain ⟨t2, h2⟩ : ∃ t2 : Int, t2 = 0 := ⟨_, rfl⟩
    obtain ⟨t3, h3⟩ : ∃ t3 : Int, t3 = 0 := ⟨_, rfl⟩
    obtain ⟨t4, h4⟩ : ∃ t4 : Int, t4 = 0 := ⟨_, rfl⟩
    have X4 : Hid (TX w g c D E L nd cd ne ce nl cl e t0 t1 t2 t3 t4 w3) := by subst h0 h1 h2 h3 h4; exact X3
    rw [← h0] at q0
    rw [← h1] at q1
    rw [← h2] at q2
    rw [← h3] at q3
    rw [← h4] at q4
    clear h0 h1 h2 h3 h4 hp X3
    obtain ⟨-, g0, g1, g2, g3, g4, g5, g6, g7, g8, g9, g10, g11, g12, g13, g14, g15, g16, g17⟩ := X4.out.s
    have HA2 := Lib.hid (fun W => (by have := HA.out W; rw [q0, q1] at this; exact this : Calls Try.prog 15 #[.agg #[.int .i64 c.hosts, .int .i64 c.cycle, .int .i64 c.delay, .int .i64 c.window, .int .i64 c.precision, .slice D nd cd, .slice E ne ce, .slice L nl cl, .int .i64 c.queue], .agg #[.int .i64 e.a, .int .u32 e.b, .int .i64 e.c, .int .i64 e.d]] W fun r w' => r = .returned (.tuple #[.int .i64 t0, .int .i64 t1]) ∧ Below W.heap.size W w'))
    go_wp2_with fail
    refine (HA2.out _).mono ?_
    rintro r w4 ⟨rfl, hb⟩
    have X5 := Lib.hid (X4.out.next hb)
    clear hb g0 g1 g2 g3 g4 g5 g6 g7 g8 g9 g10 g11 g12 g13 g14 g15 g16 g17
    obtain ⟨-, h0, h1, h2, h3, h4, h5, h6, h7, h8, h9, h10, h11, h12, h13, h14, h15, h16, h17⟩ := X5.out.s
    have K2 := Lib.hid (show ∀ W, (Hid (TX w g c D E L nd cd ne ce nl cl e t0 t1 t2 t3 t4 W) ∧ W.cell? ⟨w.heap.size, 0, none⟩ = some (.int .i64 c.hosts) ∧ W.cell? ⟨w.heap.size, 1, none⟩ = some (.int .i64 c.cycle) ∧ W.cell? ⟨w.heap.size, 2, none⟩ = some (.int .i64 c.delay) ∧ W.cell? ⟨w.heap.size, 3, none⟩ = some (.int .i64 c.window) ∧ W.cell? ⟨w.heap.size, 4, none⟩ = some (.int .i64 c.precision) ∧ W.cell? ⟨w.heap.size, 5, none⟩ = some (.slice D nd cd) ∧ W.cell? ⟨w.heap.size, 6, none⟩ = some (.slice E ne ce) ∧ W.cell? ⟨w.heap.size, 7, none⟩ = some (.slice L nl cl) ∧ W.cell? ⟨w.heap.size, 8, none⟩ = some (.int .i64 c.queue) ∧ W.cell? ⟨w.heap.size + 1, 0, none⟩ = some (.int .i64 e.a) ∧ W.cell? ⟨w.heap.size + 1, 1, none⟩ = some (.int .u32 e.b) ∧ W.cell? ⟨w.heap.size + 1, 2, none⟩ = some (.int .i64 e.c) ∧ W.cell? ⟨w.heap.size + 1, 3, none⟩ = some (.int .i64 e.d) ∧ W.cell? ⟨g, 0, none⟩ = some (.int .i64 t0) ∧ W.cell? ⟨g, 1, none⟩ = some (.int .i64 t1) ∧ W.cell? ⟨g, 2, none⟩ = some (.int .i64 t2) ∧ W.cell? ⟨g, 3, none⟩ = some (.int .i64 t3) ∧ W.cell? ⟨g, 4, none⟩ = some (.int .i64 t4)) → Calls Try.prog 16 #[.agg #[.int .i64 c.hosts, .int .i64 c.cycle, .int .i64 c.delay, .int .i64 c.window, .int .i64 c.precision, .slice D nd cd, .slice E ne ce, .slice L nl cl, .int .i64 c.queue], .agg #[.int .i64 e.a, .int .u32 e.b, .int .i64 e.c, .int .i64 e.d]] W fun r W' => r = .returned (.int .i64 t2) ∧ (Hid (TX w g c D E L nd cd ne ce nl cl e t0 t1 t2 t3 t4 W') ∧ W'.cell? ⟨w.heap.size, 0, none⟩ = some (.int .i64 c.hosts) ∧ W'.cell? ⟨w.heap.size, 1, none⟩ = some (.int .i64 c.cycle) ∧ W'.cell? ⟨w.heap.size, 2, none⟩ = some (.int .i64 c.delay) ∧ W'.cell? ⟨w.heap.size, 3, none⟩ = some (.int .i64 c.window) ∧ W'.cell? ⟨w.heap.size, 4, none⟩ = some (.int .i64 c.precision) ∧ W'.cell? ⟨w.heap.size, 5, none⟩ = some (.slice D nd cd) ∧ W'.cell? ⟨w.heap.size, 6, none⟩ = some (.slice E ne ce) ∧ W'.cell? ⟨w.heap.size, 7, none⟩ = some (.slice L nl cl) ∧ W'.cell? ⟨w.heap.size, 8, none⟩ = some (.int .i64 c.queue) ∧ W'.cell? ⟨w.heap.size + 1, 0, none⟩ = some (.int .i64 e.a) ∧ W'.cell? ⟨w.heap.size + 1, 1, none⟩ = some (.int .u32 e.b) ∧ W'.cell? ⟨w.heap.size + 1, 2, none⟩ = some (.int .i64 e.c) ∧ W'.cell? ⟨w.heap.size + 1, 3, none⟩ = some (.int .i64 e.d) ∧ W'.cell? ⟨g, 0, none⟩ = some (.int .i64 t0) ∧ W'.cell? ⟨g, 1, none⟩ = some (.int .i64 t1) ∧ W'.cell? ⟨g, 2, none⟩ = some (.int .i64 t2) ∧ W'.cell? ⟨g, 3, none⟩ = some (.int .i64 t3) ∧ W'.cell? ⟨g, 4, none⟩ = some (.int .i64 t4)) from fun W hS => ((by have := forward_any c D E L nd cd ne ce nl cl e W HE.out; rw [q2] at this; exact this : Calls Try.prog 16 #[.agg #[.int .i64 c.hosts, .int .i64 c.cycle, .int .i64 c.delay, .int .i64 c.window, .int .i64 c.precision, .slice D nd cd, .slice E ne ce, .slice L nl cl, .int .i64 c.queue], .agg #[.int .i64 e.a, .int .u32 e.b, .int .i64 e.c, .int .i64 e.d]] W fun r w' => r = .returned (.int .i64 t2) ∧ Below W.heap.size W w')).mono fun r W' ⟨hr, hb⟩ => ⟨hr, (hS.1.out.next hb).s⟩)
    have K3 := Lib.hid (show ∀ W, (Hid (TX w g c D E L nd cd ne ce nl cl e t0 t1 t2 t3 t4 W) ∧ W.cell? ⟨w.heap.size, 0, none⟩ = some (.int .i64 c.hosts) ∧ W.cell? ⟨w.heap.size, 1, none⟩ = some (.int .i64 c.cycle) ∧ W.cell? ⟨w.heap.size, 2, none⟩ = some (.int .i64 c.delay) ∧ W.cell? ⟨w.heap.size, 3, none⟩ = some (.int .i64 c.window) ∧ W.cell? ⟨w.heap.size, 4, none⟩ = some (.int .i64 c.precision) ∧ W.cell? ⟨w.heap.size, 5, none⟩ = some (.slice D nd cd) ∧ W.cell? ⟨w.heap.size, 6, none⟩ = some (.slice E ne ce) ∧ W.cell? ⟨w.heap.size, 7, none⟩ = some (.slice L nl cl) ∧ W.cell? ⟨w.heap.size, 8, none⟩ = some (.int .i64 c.queue) ∧ W.cell? ⟨w.heap.size + 1, 0, none⟩ = some (.int .i64 e.a) ∧ W.cell? ⟨w.heap.size + 1, 1, none⟩ = some (.int .u32 e.b) ∧ W.cell? ⟨w.heap.size + 1, 2, none⟩ = some (.int .i64 e.c) ∧ W.cell? ⟨w.heap.size + 1, 3, none⟩ = some (.int .i64 e.d) ∧ W.cell? ⟨g, 0, none⟩ = some (.int .i64 t0) ∧ W.cell? ⟨g, 1, none⟩ = some (.int .i64 t1) ∧ W.cell? ⟨g, 2, none⟩ = some (.int .i64 t2) ∧ W.cell? ⟨g, 3, none⟩ = some (.int .i64 t3) ∧ W.cell? ⟨g, 4, none⟩ = some (.int .i64 t4)) → Calls Try.prog 17 #[.agg #[.int .i64 c.hosts, .int .i64 c.cycle, .int .i64 c.delay, .int .i64 c.window, .int .i64 c.precision, .slice D nd cd, .slice E ne ce, .slice L nl cl, .int .i64 c.queue], .agg #[.int .i64 e.a, .int .u32 e.b, .int .i64 e.c, .int .i64 e.d]] W fun r W' => r = .returned (.int .i64 t3) ∧ (Hid (TX w g c D E L nd cd ne ce nl cl e t0 t1 t2 t3 t4 W') ∧ W'.cell? ⟨w.heap.size, 0, none⟩ = some (.int .i64 c.hosts) ∧ W'.cell? ⟨w.heap.size, 1, none⟩ = some (.int .i64 c.cycle) ∧ W'.cell? ⟨w.heap.size, 2, none⟩ = some (.int .i64 c.delay) ∧ W'.cell? ⟨w.heap.size, 3, none⟩ = some (.int .i64 c.window) ∧ W'.cell? ⟨w.heap.size, 4, none⟩ = some (.int .i64 c.precision) ∧ W'.cell? ⟨w.heap.size, 5, none⟩ = some (.slice D nd cd) ∧ W'.cell? ⟨w.heap.size, 6, none⟩ = some (.slice E ne ce) ∧ W'.cell? ⟨w.heap.size, 7, none⟩ = some (.slice L nl cl) ∧ W'.cell? ⟨w.heap.size, 8, none⟩ = some (.int .i64 c.queue) ∧ W'.cell? ⟨w.heap.size + 1, 0, none⟩ = some (.int .i64 e.a) ∧ W'.cell? ⟨w.heap.size + 1, 1, none⟩ = some (.int .u32 e.b) ∧ W'.cell? ⟨w.heap.size + 1, 2, none⟩ = some (.int .i64 e.c) ∧ W'.cell? ⟨w.heap.size + 1, 3, none⟩ = some (.int .i64 e.d) ∧ W'.cell? ⟨g, 0, none⟩ = some (.int .i64 t0) ∧ W'.cell? ⟨g, 1, none⟩ = some (.int .i64 t1) ∧ W'.cell? ⟨g, 2, none⟩ = some (.int .i64 t2) ∧ W'.cell? ⟨g, 3, none⟩ = some (.int .i64 t3) ∧ W'.cell? ⟨g, 4, none⟩ = some (.int .i64 t4)) from fun W hS => ((by have := early_any c D E L nd cd ne ce nl cl e W HE.out; rw [q3] at this; exact this : Calls Try.prog 17 #[.agg #[.int .i64 c.hosts, .int .i64 c.cycle, .int .i64 c.delay, .int .i64 c.window, .int .i64 c.precision, .slice D nd cd, .slice E ne ce, .slice L nl cl, .int .i64 c.queue], .agg #[.int .i64 e.a, .int .u32 e.b, .int .i64 e.c, .int .i64 e.d]] W fun r w' => r = .returned (.int .i64 t3) ∧ Below W.heap.size W w')).mono fun r W' ⟨hr, hb⟩ => ⟨hr, (hS.1.out.next hb).s⟩)
    have K4 := Lib.hid (show ∀ W, (Hid (TX w g c D E L nd cd ne ce nl cl e t0 t1 t2 t3 t4 W) ∧ W.cell? ⟨w.heap.size, 0, none⟩ = some (.int .i64 c.hosts) ∧ W.cell? ⟨w.heap.size, 1, none⟩ = some (.int .i64 c.cycle) ∧ W.cell? ⟨w.heap.size, 2, none⟩ = some (.int .i64 c.delay) ∧ W.cell? ⟨w.heap.size, 3, none⟩ = some (.int .i64 c.window) ∧ W.cell? ⟨w.heap.size, 4, none⟩ = some (.int .i64 c.precision) ∧ W.cell? ⟨w.heap.size, 5, none⟩ = some (.slice D nd cd) ∧ W.cell? ⟨w.heap.size, 6, none⟩ = some (.slice E ne ce) ∧ W.cell? ⟨w.heap.size, 7, none⟩ = some (.slice L nl cl) ∧ W.cell? ⟨w.heap.size, 8, none⟩ = some (.int .i64 c.queue) ∧ W.cell? ⟨w.heap.size + 1, 0, none⟩ = some (.int .i64 e.a) ∧ W.cell? ⟨w.heap.size + 1, 1, none⟩ = some (.int .u32 e.b) ∧ W.cell? ⟨w.heap.size + 1, 2, none⟩ = some (.int .i64 e.c) ∧ W.cell? ⟨w.heap.size + 1, 3, none⟩ = some (.int .i64 e.d) ∧ W.cell? ⟨g, 0, none⟩ = some (.int .i64 t0) ∧ W.cell? ⟨g, 1, none⟩ = some (.int .i64 t1) ∧ W.cell? ⟨g, 2, none⟩ = some (.int .i64 t2) ∧ W.cell? ⟨g, 3, none⟩ = some (.int .i64 t3) ∧ W.cell? ⟨g, 4, none⟩ = some (.int .i64 t4)) → Calls Try.prog 18 #[.agg #[.int .i64 c.hosts, .int .i64 c.cycle, .int .i64 c.delay, .int .i64 c.window, .int .i64 c.precision, .slice D nd cd, .slice E ne ce, .slice L nl cl, .int .i64 c.queue], .agg #[.int .i64 e.a, .int .u32 e.b, .int .i64 e.c, .int .i64 e.d]] W fun r W' => r = .returned (.int .i64 t4) ∧ (Hid (TX w g c D E L nd cd ne ce nl cl e t0 t1 t2 t3 t4 W') ∧ W'.cell? ⟨w.heap.size, 0, none⟩ = some (.int .i64 c.hosts) ∧ W'.cell? ⟨w.heap.size, 1, none⟩ = some (.int .i64 c.cycle) ∧ W'.cell? ⟨w.heap.size, 2, none⟩ = some (.int .i64 c.delay) ∧ W'.cell? ⟨w.heap.size, 3, none⟩ = some (.int .i64 c.window) ∧ W'.cell? ⟨w.heap.size, 4, none⟩ = some (.int .i64 c.precision) ∧ W'.cell? ⟨w.heap.size, 5, none⟩ = some (.slice D nd cd) ∧ W'.cell? ⟨w.heap.size, 6, none⟩ = some (.slice E ne ce) ∧ W'.cell? ⟨w.heap.size, 7, none⟩ = some (.slice L nl cl) ∧ W'.cell? ⟨w.heap.size, 8, none⟩ = some (.int .i64 c.queue) ∧ W'.cell? ⟨w.heap.size + 1, 0, none⟩ = some (.int .i64 e.a) ∧ W'.cell? ⟨w.heap.size + 1, 1, none⟩ = some (.int .u32 e.b) ∧ W'.cell? ⟨w.heap.size + 1, 2, none⟩ = some (.int .i64 e.c) ∧ W'.cell? ⟨w.heap.size + 1, 3, none⟩ = some (.int .i64 e.d) ∧ W'.cell? ⟨g, 0, none⟩ = some (.int .i64 t0) ∧ W'.cell? ⟨g, 1, none⟩ = some (.int .i64 t1) ∧ W'.cell? ⟨g, 2, none⟩ = some (.int .i64 t2) ∧ W'.cell? ⟨g, 3, none⟩ = some (.int .i64 t3) ∧ W'.cell? ⟨g, 4, none⟩ = some (.int .i64 t4)) from fun W hS => ((by have := late_any c D E L nd cd ne ce nl cl e W HE.out; rw [q4] at this; exact this : Calls Try.prog 18 #[.agg #[.int .i64 c.hosts, .int .i64 c.cycle, .int .i64 c.delay, .int .i64 c.window, .int .i64 c.precision, .slice D nd cd, .slice E ne ce, .slice L nl cl, .int .i64 c.queue], .agg #[.int .i64 e.a, .int .u32 e.b, .int .i64 e.c, .int .i64 e.d]] W fun r w' => r = .returned (.int .i64 t4) ∧ Below W.heap.size W w')).mono fun r W' ⟨hr, hb⟩ => ⟨hr, (hS.1.out.next hb).s⟩)
    have K5 := Lib.hid (show ∀ W, (Hid (TX w g c D E L nd cd ne ce nl cl e t0 t1 t2 t3 t4 W) ∧ W.cell? ⟨w.heap.size, 0, none⟩ = some (.int .i64 c.hosts) ∧ W.cell? ⟨w.heap.size, 1, none⟩ = some (.int .i64 c.cycle) ∧ W.cell? ⟨w.heap.size, 2, none⟩ = some (.int .i64 c.delay) ∧ W.cell? ⟨w.heap.size, 3, none⟩ = some (.int .i64 c.window) ∧ W.cell? ⟨w.heap.size, 4, none⟩ = some (.int .i64 c.precision) ∧ W.cell? ⟨w.heap.size, 5, none⟩ = some (.slice D nd cd) ∧ W.cell? ⟨w.heap.size, 6, none⟩ = some (.slice E ne ce) ∧ W.cell? ⟨w.heap.size, 7, none⟩ = some (.slice L nl cl) ∧ W.cell? ⟨w.heap.size, 8, none⟩ = some (.int .i64 c.queue) ∧ W.cell? ⟨w.heap.size + 1, 0, none⟩ = some (.int .i64 e.a) ∧ W.cell? ⟨w.heap.size + 1, 1, none⟩ = some (.int .u32 e.b) ∧ W.cell? ⟨w.heap.size + 1, 2, none⟩ = some (.int .i64 e.c) ∧ W.cell? ⟨w.heap.size + 1, 3, none⟩ = some (.int .i64 e.d) ∧ W.cell? ⟨g, 0, none⟩ = some (.int .i64 t0) ∧ W.cell? ⟨g, 1, none⟩ = some (.int .i64 t1) ∧ W.cell? ⟨g, 2, none⟩ = some (.int .i64 t2) ∧ W.cell? ⟨g, 3, none⟩ = some (.int .i64 t3) ∧ W.cell? ⟨g, 4, none⟩ = some (.int .i64 t4)) → Calls Try.prog 19 #[.agg #[.int .i64 c.hosts, .int .i64 c.cycle, .int .i64 c.delay, .int .i64 c.window, .int .i64 c.precision, .slice D nd cd, .slice E ne ce, .slice L nl cl, .int .i64 c.queue]] W fun r W' => r = .returned (.int .i64 (quiet c)) ∧ (Hid (TX w g c D E L nd cd ne ce nl cl e t0 t1 t2 t3 t4 W') ∧ W'.cell? ⟨w.heap.size, 0, none⟩ = some (.int .i64 c.hosts) ∧ W'.cell? ⟨w.heap.size, 1, none⟩ = some (.int .i64 c.cycle) ∧ W'.cell? ⟨w.heap.size, 2, none⟩ = some (.int .i64 c.delay) ∧ W'.cell? ⟨w.heap.size, 3, none⟩ = some (.int .i64 c.window) ∧ W'.cell? ⟨w.heap.size, 4, none⟩ = some (.int .i64 c.precision) ∧ W'.cell? ⟨w.heap.size, 5, none⟩ = some (.slice D nd cd) ∧ W'.cell? ⟨w.heap.size, 6, none⟩ = some (.slice E ne ce) ∧ W'.cell? ⟨w.heap.size, 7, none⟩ = some (.slice L nl cl) ∧ W'.cell? ⟨w.heap.size, 8, none⟩ = some (.int .i64 c.queue) ∧ W'.cell? ⟨w.heap.size + 1, 0, none⟩ = some (.int .i64 e.a) ∧ W'.cell? ⟨w.heap.size + 1, 1, none⟩ = some (.int .u32 e.b) ∧ W'.cell? ⟨w.heap.size + 1, 2, none⟩ = some (.int .i64 e.c) ∧ W'.cell? ⟨w.heap.size + 1, 3, none⟩ = some (.int .i64 e.d) ∧ W'.cell? ⟨g, 0, none⟩ = some (.int .i64 t0) ∧ W'.cell? ⟨g, 1, none⟩ = some (.int .i64 t1) ∧ W'.cell? ⟨g, 2, none⟩ = some (.int .i64 t2) ∧ W'.cell? ⟨g, 3, none⟩ = some (.int .i64 t3) ∧ W'.cell? ⟨g, 4, none⟩ = some (.int .i64 t4)) from fun W hS => (quiet_any c D E L nd cd ne ce nl cl W).mono fun r W' ⟨hr, hb⟩ => ⟨hr, (hS.1.out.next hb).s⟩)
    have K6 := Lib.hid (show ∀ W, (Hid (TX w g c D E L nd cd ne ce nl cl e t0 t1 t2 t3 t4 W) ∧ W.cell? ⟨w.heap.size, 0, none⟩ = some (.int .i64 c.hosts) ∧ W.cell? ⟨w.heap.size, 1, none⟩ = some (.int .i64 c.cycle) ∧ W.cell? ⟨w.heap.size, 2, none⟩ = some (.int .i64 c.delay) ∧ W.cell? ⟨w.heap.size, 3, none⟩ = some (.int .i64 c.window) ∧ W.cell? ⟨w.heap.size, 4, none⟩ = some (.int .i64 c.precision) ∧ W.cell? ⟨w.heap.size, 5, none⟩ = some (.slice D nd cd) ∧ W.cell? ⟨w.heap.size, 6, none⟩ = some (.slice E ne ce) ∧ W.cell? ⟨w.heap.size, 7, none⟩ = some (.slice L nl cl) ∧ W.cell? ⟨w.heap.size, 8, none⟩ = some (.int .i64 c.queue) ∧ W.cell? ⟨w.heap.size + 1, 0, none⟩ = some (.int .i64 e.a) ∧ W.cell? ⟨w.heap.size + 1, 1, none⟩ = some (.int .u32 e.b) ∧ W.cell? ⟨w.heap.size + 1, 2, none⟩ = some (.int .i64 e.c) ∧ W.cell? ⟨w.heap.size + 1, 3, none⟩ = some (.int .i64 e.d) ∧ W.cell? ⟨g, 0, none⟩ = some (.int .i64 t0) ∧ W.cell? ⟨g, 1, none⟩ = some (.int .i64 t1) ∧ W.cell? ⟨g, 2, none⟩ = some (.int .i64 t2) ∧ W.cell? ⟨g, 3, none⟩ = some (.int .i64 t3) ∧ W.cell? ⟨g, 4, none⟩ = some (.int .i64 t4)) → Calls Try.prog 20 #[.agg #[.int .i64 c.hosts, .int .i64 c.cycle, .int .i64 c.delay, .int .i64 c.window, .int .i64 c.precision, .slice D nd cd, .slice E ne ce, .slice L nl cl, .int .i64 c.queue]] W fun r W' => r = .returned (.int .i64 (quiet c)) ∧ (Hid (TX w g c D E L nd cd ne ce nl cl e t0 t1 t2 t3 t4 W') ∧ W'.cell? ⟨w.heap.size, 0, none⟩ = some (.int .i64 c.hosts) ∧ W'.cell? ⟨w.heap.size, 1, none⟩ = some (.int .i64 c.cycle) ∧ W'.cell? ⟨w.heap.size, 2, none⟩ = some (.int .i64 c.delay) ∧ W'.cell? ⟨w.heap.size, 3, none⟩ = some (.int .i64 c.window) ∧ W'.cell? ⟨w.heap.size, 4, none⟩ = some (.int .i64 c.precision) ∧ W'.cell? ⟨w.heap.size, 5, none⟩ = some (.slice D nd cd) ∧ W'.cell? ⟨w.heap.size, 6, none⟩ = some (.slice E ne ce) ∧ W'.cell? ⟨w.heap.size, 7, none⟩ = some (.slice L nl cl) ∧ W'.cell? ⟨w.heap.size, 8, none⟩ = some (.int .i64 c.queue) ∧ W'.cell? ⟨w.heap.size + 1, 0, none⟩ = some (.int .i64 e.a) ∧ W'.cell? ⟨w.heap.size + 1, 1, none⟩ = some (.int .u32 e.b) ∧ W'.cell? ⟨w.heap.size + 1, 2, none⟩ = some (.int .i64 e.c) ∧ W'.cell? ⟨w.heap.size + 1, 3, none⟩ = some (.int .i64 e.d) ∧ W'.cell? ⟨g, 0, none⟩ = some (.int .i64 t0) ∧ W'.cell? ⟨g, 1, none⟩ = some (.int .i64 t1) ∧ W'.cell? ⟨g, 2, none⟩ = some (.int .i64 t2) ∧ W'.cell? ⟨g, 3, none⟩ = some (.int .i64 t3) ∧ W'.cell? ⟨g, 4, none⟩ = some (.int .i64 t4)) from fun W hS => (refQuiet_any c D E L nd cd ne ce nl cl W).mono fun r W' ⟨hr, hb⟩ => ⟨hr, (hS.1.out.next hb).s⟩)
    generalize quiet c = qt at *
    clear q0 q1 q2 q3 q4
    go_wp2_with fail
    refine wp_region_held_drew (S := fun W : World => Hid (TX w g c D E L nd cd ne ce nl cl e t0 t1 t2 t3 t4 W) ∧ W.cell? ⟨w.heap.size, 0, none⟩ = some (.int .i64 c.hosts) ∧ W.cell? ⟨w.heap.size, 1, none⟩ = some (.int .i64 c.cycle) ∧ W.cell? ⟨w.heap.size, 2, none⟩ = some (.int .i64 c.delay) ∧ W.cell? ⟨w.heap.size, 3, none⟩ = some (.int .i64 c.window) ∧ W.cell? ⟨w.heap.size, 4, none⟩ = some (.int .i64 c.precision) ∧ W.cell? ⟨w.heap.size, 5, none⟩ = some (.slice D nd cd) ∧ W.cell? ⟨w.heap.size, 6, none⟩ = some (.slice E ne ce) ∧ W.cell? ⟨w.heap.size, 7, none⟩ = some (.slice L nl cl) ∧ W.cell? ⟨w.heap.size, 8, none⟩ = some (.int .i64 c.queue) ∧ W.cell? ⟨w.heap.size + 1, 0, none⟩ = some (.int .i64 e.a) ∧ W.cell? ⟨w.heap.size + 1, 1, none⟩ = some (.int .u32 e.b) ∧ W.cell? ⟨w.heap.size + 1, 2, none⟩ = some (.int .i64 e.c) ∧ W.cell? ⟨w.heap.size + 1, 3, none⟩ = some (.int .i64 e.d) ∧ W.cell? ⟨g, 0, none⟩ = some (.int .i64 t0) ∧ W.cell? ⟨g, 1, none⟩ = some (.int .i64 t1) ∧ W.cell? ⟨g, 2, none⟩ = some (.int .i64 t2) ∧ W.cell? ⟨g, 3, none⟩ = some (.int .i64 t3) ∧ W.cell? ⟨g, 4, none⟩ = some (.int .i64 t4)) (by kernel_rfl) (X5.out.drew.s) (fun hHeld => ?_)
    refine wpAnyH_take (i := 0) (oi := ⟨(some 22), _, _, _, _, _⟩) (v := ?_) rfl (by kernel_rfl) (by kernel_rfl) (by kernel_rfl) (fun _ _ _ h => h) (Or.inl ⟨by kernel_rfl, ?_⟩) (by assumption) ?_; rotate_left; (focus (intro w hSw; (try dsimp only at hSw); go_simp; (try with_reducible rfl)))
    simp only [Act.put, List.setIfInBounds_toArray, List.set_cons_zero, List.set_cons_succ]
    refine wpAnyH_take (i := 1) (oi := ⟨(some 23), _, _, _, _, _⟩) (v := ?_) rfl (by kernel_rfl) (by kernel_rfl) (by kernel_rfl) (fun _ _ _ h => h) (Or.inl ⟨by kernel_rfl, ?_⟩) (by assumption) ?_; rotate_left; (focus (intro w hSw; (try dsimp only at hSw); go_simp; (try with_reducible rfl)))
    simp only [Act.put, List.setIfInBounds_toArray, List.set_cons_zero, List.set_cons_succ]
    refine wpAnyH_take (i := 2) (oi := ⟨(some 24), _, _, _, _, _⟩) (v := ?_) rfl (by kernel_rfl) (by kernel_rfl) (by kernel_rfl) (fun _ _ _ h => h) (Or.inl ⟨by kernel_rfl, ?_⟩) (by assumption) ?_; rotate_left; (focus (intro w hSw; (try dsimp only at hSw); go_simp; (try with_reducible rfl)))
    simp only [Act.put, List.setIfInBounds_toArray, List.set_cons_zero, List.set_cons_succ]
    refine wpAnyH_take (i := 3) (oi := ⟨(some 25), _, _, _, _, _⟩) (v := ?_) rfl (by kernel_rfl) (by kernel_rfl) (by kernel_rfl) (fun _ _ _ h => h) (Or.inl ⟨by kernel_rfl, ?_⟩) (by assumption) ?_; rotate_left; (focus (intro w hSw; (try dsimp only at hSw); go_simp; (try with_reducible rfl)))
    simp only [Act.put, List.setIfInBounds_toArray, List.set_cons_zero, List.set_cons_succ]
    refine wpAnyH_take (i := 4) (oi := ⟨(some 26), _, _, _, _, _⟩) (v := ?_) rfl (by kernel_rfl) (by kernel_rfl) (by kernel_rfl) (fun _ _ _ h => h) (Or.inl ⟨by kernel_rfl, ?_⟩) (by assumption) ?_; rotate_left; (focus (intro w hSw; (try dsimp only at hSw); go_simp; (try with_reducible rfl)))
    simp only [Act.put, List.setIfInBounds_toArray, List.set_cons_zero, List.set_cons_succ]
    refine wpAnyH_take (i := 5) (oi := ⟨(some 27), _, _, _, _, _⟩) (v := ?_) rfl (by kernel_rfl) (by kernel_rfl) (by kernel_rfl) (fun _ _ _ h => h) (Or.inl ⟨by kernel_rfl, ?_⟩) (by assumption) ?_; rotate_left; (focus (intro w hSw; (try dsimp only at hSw); go_simp; (try with_reducible rfl)))
    simp only [Act.put, List.setIfInBounds_toArray, List.set_cons_zero, List.set_cons_succ]
    refine wpAnyH_take (i := 6) (oi := ⟨(some 28), _, _, _, _, _⟩) (v := ?_) rfl (by kernel_rfl) (by kernel_rfl) (by kernel_rfl) (fun _ _ _ h => h) (Or.inl ⟨by kernel_rfl, ?_⟩) (by assumption) ?_; rotate_left; (focus (intro w hSw; (try dsimp only at hSw); go_simp; (try with_reducible rfl)))
    simp only [Act.put, List.setIfInBounds_toArray, List.set_cons_zero, List.set_cons_succ]
    refine wpAnyH_take (i := 7) (oi := ⟨(some 29), _, _, _, _, _⟩) (v := ?_) rfl (by kernel_rfl) (by kernel_rfl) (by kernel_rfl) (fun _ _ _ h => h) (Or.inl ⟨by kernel_rfl, ?_⟩) (by assumption) ?_; rotate_left; (focus (intro w hSw; (try dsimp only at hSw); go_simp; (try with_reducible rfl)))
    simp only [Act.put, List.setIfInBounds_toArray, List.set_cons_zero, List.set_cons_succ]
    refine wpAnyH_take (i := 8) (oi := ⟨(some 30), _, _, _, _, _⟩) (v := ?_) rfl (by kernel_rfl) (by kernel_rfl) (by kernel_rfl) (fun _ _ _ h => h) (Or.inl ⟨by kernel_rfl, ?_⟩) (by assumption) ?_; rotate_left; (focus (intro w hSw; (try dsimp only at hSw); go_simp; (try with_reducible rfl)))
    simp only [Act.put, List.setIfInBounds_toArray, List.set_cons_zero, List.set_cons_succ]
    refine wpAnyH_take (i := 9) (oi := ⟨(some 31), _, _, _, _, _⟩) (v := ?_) rfl (by kernel_rfl) (by kernel_rfl) (by kernel_rfl) (fun _ _ _ h => h) (Or.inl ⟨by kernel_rfl, ?_⟩) (by assumption) ?_; rotate_left; (focus (intro w hSw; (try dsimp only at hSw); go_simp; (try with_reducible rfl)))
    simp only [Act.put, List.setIfInBounds_toArray, List.set_cons_zero, List.set_cons_succ]
    refine wpAnyH_take (i := 10) (oi := ⟨(some 32), _, _, _, _, _⟩) (v := ?_) rfl (by kernel_rfl) (by kernel_rfl) (by kernel_rfl) (fun _ _ _ h => h) (Or.inl ⟨by kernel_rfl, ?_⟩) (by assumption) ?_; rotate_left; (focus (intro w hSw; (try dsimp only at hSw); go_simp; (try with_reducible rfl)))
    simp only [Act.put, List.setIfInBounds_toArray, List.set_cons_zero, List.set_cons_succ]
    refine wpAnyH_take (i := 11) (oi := ⟨(some 33), _, _, _, _, _⟩) (v := ?_) rfl (by kernel_rfl) (by kernel_rfl) (by kernel_rfl) (fun _ _ _ h => h) (Or.inl ⟨by kernel_rfl, ?_⟩) (by assumption) ?_; rotate_left; (focus (intro w hSw; (try dsimp only at hSw); go_simp; (try with_reducible rfl)))
    simp only [Act.put, List.setIfInBounds_toArray, List.set_cons_zero, List.set_cons_succ]
    refine wpAnyH_take (i := 12) (oi := ⟨(some 34), _, _, _, _, _⟩) (v := ?_) rfl (by kernel_rfl) (by kernel_rfl) (by kernel_rfl) (fun _ _ _ h => h) (Or.inl ⟨by kernel_rfl, ?_⟩) (by assumption) ?_; rotate_left; (focus (intro w hSw; (try dsimp only at hSw); go_simp; (try with_reducible rfl)))
    simp only [Act.put, List.setIfInBounds_toArray, List.set_cons_zero, List.set_cons_succ]
    refine wpAnyH_take (i := 14) (oi := ⟨(some 36), _, _, _, _, _⟩) (v := ?_) rfl (by kernel_rfl) (by kernel_rfl) (by kernel_rfl) (fun _ _ _ h => h) (Or.inl ⟨by kernel_rfl, ?_⟩) (by assumption) ?_; rotate_left; (focus (intro w hSw; (try dsimp only at hSw); go_simp; (try with_reducible rfl)))
    simp only [Act.put, List.setIfInBounds_toArray, List.set_cons_zero, List.set_cons_succ]
    refine wpAnyH_take (i := 15) (oi := ⟨(some 37), _, _, _, _, _⟩) (v := ?_) rfl (by kernel_rfl) (by kernel_rfl) (by kernel_rfl) (fun _ _ _ h => h) (Or.inl ⟨by kernel_rfl, ?_⟩) (by assumption) ?_; rotate_left; (focus (intro w hSw; (try dsimp only at hSw); go_simp; (try with_reducible rfl)))
    simp only [Act.put, List.setIfInBounds_toArray, List.set_cons_zero, List.set_cons_succ]
    refine wpAnyH_ready (rs := [13]) (by kernel_rfl) (by simp) ?_
    refine AllReadyH.cons (o := ⟨(some 35), _, _, _, _, _⟩) rfl (fun K hK => ?_) AllReadyH.nil
    go_simp
    ((with_reducible refine (K2.out _ (by assumption)).mono ?_); rintro r w9 ⟨rfl, hs9⟩)
    go_simp
    refine hK.out _ _ (by assumption) (fun hHeld => ?_)
    clear hK K
    refine wpAnyH_take (i := 16) (oi := ⟨(some 38), _, _, _, _, _⟩) (v := ?_) rfl (by kernel_rfl) (by kernel_rfl) (by kernel_rfl) (fun _ _ _ h => h) (Or.inl ⟨by kernel_rfl, ?_⟩) (by assumption) ?_; rotate_left; (focus (intro w hSw; (try dsimp only at hSw); go_simp; (try with_reducible rfl)))
    simp only [Act.put, List.setIfInBounds_toArray, List.set_cons_zero, List.set_cons_succ]
    refine wpAnyH_take (i := 17) (oi := ⟨(some 39), _, _, _, _, _⟩) (v := ?_) rfl (by kernel_rfl) (by kernel_rfl) (by kernel_rfl) (fun _ _ _ h => h) (Or.inl ⟨by kernel_rfl, ?_⟩) (by assumption) ?_; rotate_left; (focus (intro w hSw; (try dsimp only at hSw); go_simp; (try with_reducible rfl)))
    simp only [Act.put, List.setIfInBounds_toArray, List.set_cons_zero, List.set_cons_succ]
    refine wpAnyH_take (i := 18) (oi := ⟨(some 40), _, _, _, _, _⟩) (v := ?_) rfl (by kernel_rfl) (by kernel_rfl) (by kernel_rfl) (fun _ _ _ h => h) (Or.inl ⟨by kernel_rfl, ?_⟩) (by assumption) ?_; rotate_left; (focus (intro w hSw; (try dsimp only at hSw); go_simp; (try with_reducible rfl)))
    simp only [Act.put, List.setIfInBounds_toArray, List.set_cons_zero, List.set_cons_succ]
    refine wpAnyH_take (i := 19) (oi := ⟨(some 41), _, _, _, _, _⟩) (v := ?_) rfl (by kernel_rfl) (by kernel_rfl) (by kernel_rfl) (fun _ _ _ h => h) (Or.inl ⟨by kernel_rfl, ?_⟩) (by assumption) ?_; rotate_left; (focus (intro w hSw; (try dsimp only at hSw); go_simp; (try with_reducible rfl)))
    simp only [Act.put, List.setIfInBounds_toArray, List.set_cons_zero, List.set_cons_succ]
    refine wpAnyH_take (i := 20) (oi := ⟨(some 42), _, _, _, _, _⟩) (v := ?_) rfl (by kernel_rfl) (by kernel_rfl) (by kernel_rfl) (fun _ _ _ h => h) (Or.inl ⟨by kernel_rfl, ?_⟩) (by assumption) ?_; rotate_left; (focus (intro w hSw; (try dsimp only at hSw); go_simp; (try with_reducible rfl)))
    simp only [Act.put, List.setIfInBounds_toArray, List.set_cons_zero, List.set_cons_succ]
    refine wpAnyH_take (i := 22) (oi := ⟨(some 44), _, _, _, _, _⟩) (v := ?_) rfl (by kernel_rfl) (by kernel_rfl) (by kernel_rfl) (fun _ _ _ h => h) (Or.inl ⟨by kernel_rfl, ?_⟩) (by assumption) ?_; rotate_left; (focus (intro w hSw; (try dsimp only at hSw); go_simp; (try with_reducible rfl)))
    simp only [Act.put, List.setIfInBounds_toArray, List.set_cons_zero, List.set_cons_succ]
    refine wpAnyH_take (i := 23) (oi := ⟨(some 45), _, _, _, _, _⟩) (v := ?_) rfl (by kernel_rfl) (by kernel_rfl) (by kernel_rfl) (fun _ _ _ h => h) (Or.inl ⟨by kernel_rfl, ?_⟩) (by assumption) ?_; rotate_left; (focus (intro w hSw; (try dsimp only at hSw); go_simp; (try with_reducible rfl)))
    simp only [Act.put, List.setIfInBounds_toArray, List.set_cons_zero, List.set_cons_succ]
    refine wpAnyH_ready (rs := [21]) (by kernel_rfl) (by simp) ?_
    refine AllReadyH.cons (o := ⟨(some 43), _, _, _, _, _⟩) rfl (fun K hK => ?_) AllReadyH.nil
    go_simp
    ((with_reducible refine (K3.out _ (by assumption)).mono ?_); rintro r w9 ⟨rfl, hs9⟩)
    go_simp
    refine hK.out _ _ (by assumption) (fun hHeld => ?_)
    clear hK K
    refine wpAnyH_take (i := 24) (oi := ⟨(some 46), _, _, _, _, _⟩) (v := ?_) rfl (by kernel_rfl) (by kernel_rfl) (by kernel_rfl) (fun _ _ _ h => h) (Or.inl ⟨by kernel_rfl, ?_⟩) (by assumption) ?_; rotate_left; (focus (intro w hSw; (try dsimp only at hSw); go_simp; (try with_reducible rfl)))
    simp only [Act.put, List.setIfInBounds_toArray, List.set_cons_zero, List.set_cons_succ]
    refine wpAnyH_take (i := 25) (oi := ⟨(some 47), _, _, _, _, _⟩) (v := ?_) rfl (by kernel_rfl) (by kernel_rfl) (by kernel_rfl) (fun _ _ _ h => h) (Or.inl ⟨by kernel_rfl, ?_⟩) (by assumption) ?_; rotate_left; (focus (intro w hSw; (try dsimp only at hSw); go_simp; (try with_reducible rfl)))
    simp only [Act.put, List.setIfInBounds_toArray, List.set_cons_zero, List.set_cons_succ]
    refine wpAnyH_take (i := 26) (oi := ⟨(some 48), _, _, _, _, _⟩) (v := ?_) rfl (by kernel_rfl) (by kernel_rfl) (by kernel_rfl) (fun _ _ _ h => h) (Or.inl ⟨by kernel_rfl, ?_⟩) (by assumption) ?_; rotate_left; (focus (intro w hSw; (try dsimp only at hSw); go_simp; (try with_reducible rfl)))
    simp only [Act.put, List.setIfInBounds_toArray, List.set_cons_zero, List.set_cons_succ]
    refine wpAnyH_take (i := 27) (oi := ⟨(some 49), _, _, _, _, _⟩) (v := ?_) rfl (by kernel_rfl) (by kernel_rfl) (by kernel_rfl) (fun _ _ _ h => h) (Or.inl ⟨by kernel_rfl, ?_⟩) (by assumption) ?_; rotate_left; (focus (intro w hSw; (try dsimp only at hSw); go_simp; (try with_reducible rfl)))
    simp only [Act.put, List.setIfInBounds_toArray, List.set_cons_zero, List.set_cons_succ]
    refine wpAnyH_take (i := 28) (oi := ⟨(some 50), _, _, _, _, _⟩) (v := ?_) rfl (by kernel_rfl) (by kernel_rfl) (by kernel_rfl) (fun _ _ _ h => h) (Or.inl ⟨by kernel_rfl, ?_⟩) (by assumption) ?_; rotate_left; (focus (intro w hSw; (try dsimp only at hSw); go_simp; (try with_reducible rfl)))
    simp only [Act.put, List.setIfInBounds_toArray, List.set_cons_zero, List.set_cons_succ]
    refine wpAnyH_take (i := 30) (oi := ⟨(some 52), _, _, _, _, _⟩) (v := ?_) rfl (by kernel_rfl) (by kernel_rfl) (by kernel_rfl) (fun _ _ _ h => h) (Or.inl ⟨by kernel_rfl, ?_⟩) (by assumption) ?_; rotate_left; (focus (intro w hSw; (try dsimp only at hSw); go_simp; (try with_reducible rfl)))
    simp only [Act.put, List.setIfInBounds_toArray, List.set_cons_zero, List.set_cons_succ]
    refine wpAnyH_take (i := 31) (oi := ⟨(some 53), _, _, _, _, _⟩) (v := ?_) rfl (by kernel_rfl) (by kernel_rfl) (by kernel_rfl) (fun _ _ _ h => h) (Or.inl ⟨by kernel_rfl, ?_⟩) (by assumption) ?_; rotate_left; (focus (intro w hSw; (try dsimp only at hSw); go_simp; (try with_reducible rfl)))
    simp only [Act.put, List.setIfInBounds_toArray, List.set_cons_zero, List.set_cons_succ]
    refine wpAnyH_ready (rs := [29]) (by kernel_rfl) (by simp) ?_
    refine AllReadyH.cons (o := ⟨(some 51), _, _, _, _, _⟩) rfl (fun K hK => ?_) AllReadyH.nil
    go_simp
    ((with_reducible refine (K4.out _ (by assumption)).mono ?_); rintro r w9 ⟨rfl, hs9⟩)
    go_simp
    refine hK.out _ _ (by assumption) (fun hHeld => ?_)
    clear hK K
    refine wpAnyH_take (i := 32) (oi := ⟨(some 54), _, _, _, _, _⟩) (v := ?_) rfl (by kernel_rfl) (by kernel_rfl) (by kernel_rfl) (fun _ _ _ h => h) (Or.inl ⟨by kernel_rfl, ?_⟩) (by assumption) ?_; rotate_left; (focus (intro w hSw; (try dsimp only at hSw); go_simp; (try with_reducible rfl)))
    simp only [Act.put, List.setIfInBounds_toArray, List.set_cons_zero, List.set_cons_succ]
    refine wpAnyH_take (i := 33) (oi := ⟨(some 55), _, _, _, _, _⟩) (v := ?_) rfl (by kernel_rfl) (by kernel_rfl) (by kernel_rfl) (fun _ _ _ h => h) (Or.inl ⟨by kernel_rfl, ?_⟩) (by assumption) ?_; rotate_left; (focus (intro w hSw; (try dsimp only at hSw); go_simp; (try with_reducible rfl)))
    simp only [Act.put, List.setIfInBounds_toArray, List.set_cons_zero, List.set_cons_succ]
    refine wpAnyH_take (i := 34) (oi := ⟨(some 56), _, _, _, _, _⟩) (v := ?_) rfl (by kernel_rfl) (by kernel_rfl) (by kernel_rfl) (fun _ _ _ h => h) (Or.inl ⟨by kernel_rfl, ?_⟩) (by assumption) ?_; rotate_left; (focus (intro w hSw; (try dsimp only at hSw); go_simp; (try with_reducible rfl)))
    simp only [Act.put, List.setIfInBounds_toArray, List.set_cons_zero, List.set_cons_succ]
    refine wpAnyH_take (i := 35) (oi := ⟨(some 57), _, _, _, _, _⟩) (v := ?_) rfl (by kernel_rfl) (by kernel_rfl) (by kernel_rfl) (fun _ _ _ h => h) (Or.inl ⟨by kernel_rfl, ?_⟩) (by assumption) ?_; rotate_left; (focus (intro w hSw; (try dsimp only at hSw); go_simp; (try with_reducible rfl)))
    simp only [Act.put, List.setIfInBounds_toArray, List.set_cons_zero, List.set_cons_succ]
    refine wpAnyH_take (i := 37) (oi := ⟨(some 59), _, _, _, _, _⟩) (v := ?_) rfl (by kernel_rfl) (by kernel_rfl) (by kernel_rfl) (fun _ _ _ h => h) (Or.inl ⟨by kernel_rfl, ?_⟩) (by assumption) ?_; rotate_left; (focus (intro w hSw; (try dsimp only at hSw); go_simp; (try with_reducible rfl)))
    simp only [Act.put, List.setIfInBounds_toArray, List.set_cons_zero, List.set_cons_succ]
    refine wpAnyH_ready (rs := [36]) (by kernel_rfl) (by simp) ?_
    refine AllReadyH.cons (o := ⟨(some 58), _, _, _, _, _⟩) rfl (fun K hK => ?_) AllReadyH.nil
    go_simp
    ((with_reducible refine (K5.out _ (by assumption)).mono ?_); rintro r w9 ⟨rfl, hs9⟩)
    go_simp
    refine hK.out _ _ (by assumption) (fun hHeld => ?_)
    clear hK K
    refine wpAnyH_ready (rs := [38]) (by kernel_rfl) (by simp) ?_
    refine AllReadyH.cons (o := ⟨(some 60), _, _, _, _, _⟩) rfl (fun K hK => ?_) AllReadyH.nil
    go_simp
    ((with_reducible refine (K6.out _ (by assumption)).mono ?_); rintro r w9 ⟨rfl, hs9⟩)
    go_simp
    refine hK.out _ _ (by assumption) (fun hHeld => ?_)
    clear hK K
    refine wpAnyH_take (i := 39) (oi := ⟨(some 61), _, _, _, _, _⟩) (v := ?_) rfl (by kernel_rfl) (by kernel_rfl) (by kernel_rfl) (fun _ _ _ h => h) (Or.inl ⟨by kernel_rfl, ?_⟩) (by assumption) ?_; rotate_left; (focus (intro w hSw; (try dsimp only at hSw); go_simp; (try with_reducible rfl)))
    simp only [Act.put, List.setIfInBounds_toArray, List.set_cons_zero, List.set_cons_succ]
    refine wpAnyH_take (i := 40) (oi := ⟨(some 62), _, _, _, _, _⟩) (v := ?_) rfl (by kernel_rfl) (by kernel_rfl) (by kernel_rfl) (fun _ _ _ h => h) (Or.inl ⟨by kernel_rfl, ?_⟩) (by assumption) ?_; rotate_left; (focus (intro w hSw; (try dsimp only at hSw); go_simp; (try with_reducible rfl)))
    simp only [Act.put, List.setIfInBounds_toArray, List.set_cons_zero, List.set_cons_succ]
    refine wpAnyH_take (i := 41) (oi := ⟨(some 4), _, _, _, _, _⟩) (v := ?_) rfl (by kernel_rfl) (by kernel_rfl) (by kernel_rfl) (fun _ _ _ h => h) (Or.inl ⟨by kernel_rfl, ?_⟩) (by assumption) ?_; rotate_left; (focus (intro w hSw; (try dsimp only at hSw); go_simp; (try with_reducible rfl)))
    simp only [Act.put, List.setIfInBounds_toArray, List.set_cons_zero, List.set_cons_succ]
    refine wpAnyH_done (by kernel_rfl) ?_ _
    obtain ⟨Y, -⟩ := hHeld
    go_wp2
    go_ret
    exact ⟨rfl, Y.out.b.b⟩
  · have HT2 := Lib.hid (HT.out hp)
    obtain ⟨-, a0, a1, a2, a3, a4, a5, a6, a7, a8, a9, a10, a11, a12, a13, a14, a15, a16, a17⟩ := X3.out.s
    go_wp2_with fail
    refine (HT2.out _).mono ?_
    rintro r w5 ⟨rfl, hb⟩
    have X6 := Lib.hid (X3.out.next hb)
    clear hb a0 a1 a2 a3 a4 a5 a6 a7 a8 a9 a10 a11 a12 a13 a14 a15 a16 a17
    obtain ⟨-, d0, d1, d2, d3, d4, d5, d6, d7, d8, d9, d10, d11, d12, d13, d14, d15, d16, d17⟩ := X6.out.s
    have f0 := frozen_of_row w5 g 0 _ _ X6.out.z
    have f1 := frozen_of_row w5 g 1 _ _ X6.out.z
    have f2 := frozen_of_row w5 g 2 _ _ X6.out.z
    have f3 := frozen_of_row w5 g 3 _ _ X6.out.z
    have f4 := frozen_of_row w5 g 4 _ _ X6.out.z
    have hgb : ¬ g = w.heap.size := by
      intro e1
      have h1 := X6.out.z
      rw [e1, X6.out.b.x] at h1
      simp at h1
    have hgc : ¬ g = w.heap.size + 1 := by
      intro e1
      have h1 := X6.out.z
      rw [e1, X6.out.b.y] at h1
      simp at h1
    have hgl : w.heap.size ≤ g := HGL.out
    obtain ⟨t0, q0⟩ : ∃ t0, at0 c e = t0 := ⟨_, rfl⟩
    obtain ⟨t1, q1⟩ : ∃ t1, at1 c e = t1 := ⟨_, rfl⟩
    obtain ⟨t2, q2⟩ : ∃ t2, fwd c e = t2 := ⟨_, rfl⟩
    obtain ⟨t3, q3⟩ : ∃ t3, ear c e = t3 := ⟨_, rfl⟩
    obtain ⟨t4, q4⟩ : ∃ t4, lat c e = t4 := ⟨_, rfl⟩
    rw [q0, q1, q2, q3, q4]
    have X4 := Lib.hid (show TX w g c D E L nd cd ne ce nl cl e t0 t1 t2 t3 t4 (((((w5.setCell ⟨g, 0, none⟩ (.int .i64 t0)).setCell ⟨g, 1, none⟩ (.int .i64 t1)).setCell ⟨g, 2, none⟩ (.int .i64 t2)).setCell ⟨g, 3, none⟩ (.int .i64 t3)).setCell ⟨g, 4, none⟩ (.int .i64 t4)) from by
      have oth : ∀ (W : World) (i j : Nat) (v : Value), ¬ j = g → (W.setCell ⟨g, i, none⟩ v).heap[j]? = W.heap[j]? := fun W i j v hj => heap_setCell_other W _ j v hj
      refine ⟨⟨keepg5 X6.out.b.b hgl, ?_, ?_⟩, setg5 X6.out.z⟩
      · rw [oth _ _ _ _ (fun h => hgb h.symm), oth _ _ _ _ (fun h => hgb h.symm), oth _ _ _ _ (fun h => hgb h.symm), oth _ _ _ _ (fun h => hgb h.symm), oth _ _ _ _ (fun h => hgb h.symm)]
        exact X6.out.b.x
      · rw [oth _ _ _ _ (fun h => hgc h.symm), oth _ _ _ _ (fun h => hgc h.symm), oth _ _ _ _ (fun h => hgc h.symm), oth _ _ _ _ (fun h => hgc h.symm), oth _ _ _ _ (fun h => hgc h.symm)]
        exact X6.out.b.y)
    clear hgb hgc hgl X6 hp HT2
    obtain ⟨-, g0, g1, g2, g3, g4, g5, g6, g7, g8, g9, g10, g11, g12, g13, g14, g15, g16, g17⟩ := X4.out.s
    have HA2 := Lib.hid (fun W => (by have := HA.out W; rw [q0, q1] at this; exact this : Calls Try.prog 15 #[.agg #[.int .i64 c.hosts, .int .i64 c.cycle, .int .i64 c.delay, .int .i64 c.window, .int .i64 c.precision, .slice D nd cd, .slice E ne ce, .slice L nl cl, .int .i64 c.queue], .agg #[.int .i64 e.a, .int .u32 e.b, .int .i64 e.c, .int .i64 e.d]] W fun r w' => r = .returned (.tuple #[.int .i64 t0, .int .i64 t1]) ∧ Below W.heap.size W w'))
    go_wp2_with fail
    refine (HA2.out _).mono ?_
    rintro r w4 ⟨rfl, hb⟩
    have X5 := Lib.hid (X4.out.next hb)
    clear hb g0 g1 g2 g3 g4 g5 g6 g7 g8 g9 g10 g11 g12 g13 g14 g15 g16 g17
    obtain ⟨-, h0, h1, h2, h3, h4, h5, h6, h7, h8, h9, h10, h11, h12, h13, h14, h15, h16, h17⟩ := X5.out.s
    have K2 := Lib.hid (show ∀ W, (Hid (TX w g c D E L nd cd ne ce nl cl e t0 t1 t2 t3 t4 W) ∧ W.cell? ⟨w.heap.size, 0, none⟩ = some (.int .i64 c.hosts) ∧ W.cell? ⟨w.heap.size, 1, none⟩ = some (.int .i64 c.cycle) ∧ W.cell? ⟨w.heap.size, 2, none⟩ = some (.int .i64 c.delay) ∧ W.cell? ⟨w.heap.size, 3, none⟩ = some (.int .i64 c.window) ∧ W.cell? ⟨w.heap.size, 4, none⟩ = some (.int .i64 c.precision) ∧ W.cell? ⟨w.heap.size, 5, none⟩ = some (.slice D nd cd) ∧ W.cell? ⟨w.heap.size, 6, none⟩ = some (.slice E ne ce) ∧ W.cell? ⟨w.heap.size, 7, none⟩ = some (.slice L nl cl) ∧ W.cell? ⟨w.heap.size, 8, none⟩ = some (.int .i64 c.queue) ∧ W.cell? ⟨w.heap.size + 1, 0, none⟩ = some (.int .i64 e.a) ∧ W.cell? ⟨w.heap.size + 1, 1, none⟩ = some (.int .u32 e.b) ∧ W.cell? ⟨w.heap.size + 1, 2, none⟩ = some (.int .i64 e.c) ∧ W.cell? ⟨w.heap.size + 1, 3, none⟩ = some (.int .i64 e.d) ∧ W.cell? ⟨g, 0, none⟩ = some (.int .i64 t0) ∧ W.cell? ⟨g, 1, none⟩ = some (.int .i64 t1) ∧ W.cell? ⟨g, 2, none⟩ = some (.int .i64 t2) ∧ W.cell? ⟨g, 3, none⟩ = some (.int .i64 t3) ∧ W.cell? ⟨g, 4, none⟩ = some (.int .i64 t4)) → Calls Try.prog 16 #[.agg #[.int .i64 c.hosts, .int .i64 c.cycle, .int .i64 c.delay, .int .i64 c.window, .int .i64 c.precision, .slice D nd cd, .slice E ne ce, .slice L nl cl, .int .i64 c.queue], .agg #[.int .i64 e.a, .int .u32 e.b, .int .i64 e.c, .int .i64 e.d]] W fun r W' => r = .returned (.int .i64 t2) ∧ (Hid (TX w g c D E L nd cd ne ce nl cl e t0 t1 t2 t3 t4 W') ∧ W'.cell? ⟨w.heap.size, 0, none⟩ = some (.int .i64 c.hosts) ∧ W'.cell? ⟨w.heap.size, 1, none⟩ = some (.int .i64 c.cycle) ∧ W'.cell? ⟨w.heap.size, 2, none⟩ = some (.int .i64 c.delay) ∧ W'.cell? ⟨w.heap.size, 3, none⟩ = some (.int .i64 c.window) ∧ W'.cell? ⟨w.heap.size, 4, none⟩ = some (.int .i64 c.precision) ∧ W'.cell? ⟨w.heap.size, 5, none⟩ = some (.slice D nd cd) ∧ W'.cell? ⟨w.heap.size, 6, none⟩ = some (.slice E ne ce) ∧ W'.cell? ⟨w.heap.size, 7, none⟩ = some (.slice L nl cl) ∧ W'.cell? ⟨w.heap.size, 8, none⟩ = some (.int .i64 c.queue) ∧ W'.cell? ⟨w.heap.size + 1, 0, none⟩ = some (.int .i64 e.a) ∧ W'.cell? ⟨w.heap.size + 1, 1, none⟩ = some (.int .u32 e.b) ∧ W'.cell? ⟨w.heap.size + 1, 2, none⟩ = some (.int .i64 e.c) ∧ W'.cell? ⟨w.heap.size + 1, 3, none⟩ = some (.int .i64 e.d) ∧ W'.cell? ⟨g, 0, none⟩ = some (.int .i64 t0) ∧ W'.cell? ⟨g, 1, none⟩ = some (.int .i64 t1) ∧ W'.cell? ⟨g, 2, none⟩ = some (.int .i64 t2) ∧ W'.cell? ⟨g, 3, none⟩ = some (.int .i64 t3) ∧ W'.cell? ⟨g, 4, none⟩ = some (.int .i64 t4)) from fun W hS => ((by have := forward_any c D E L nd cd ne ce nl cl e W HE.out; rw [q2] at this; exact this : Calls Try.prog 16 #[.agg #[.int .i64 c.hosts, .int .i64 c.cycle, .int .i64 c.delay, .int .i64 c.window, .int .i64 c.precision, .slice D nd cd, .slice E ne ce, .slice L nl cl, .int .i64 c.queue], .agg #[.int .i64 e.a, .int .u32 e.b, .int .i64 e.c, .int .i64 e.d]] W fun r w' => r = .returned (.int .i64 t2) ∧ Below W.heap.size W w')).mono fun r W' ⟨hr, hb⟩ => ⟨hr, (hS.1.out.next hb).s⟩)
    have K3 := Lib.hid (show ∀ W, (Hid (TX w g c D E L nd cd ne ce nl cl e t0 t1 t2 t3 t4 W) ∧ W.cell? ⟨w.heap.size, 0, none⟩ = some (.int .i64 c.hosts) ∧ W.cell? ⟨w.heap.size, 1, none⟩ = some (.int .i64 c.cycle) ∧ W.cell? ⟨w.heap.size, 2, none⟩ = some (.int .i64 c.delay) ∧ W.cell? ⟨w.heap.size, 3, none⟩ = some (.int .i64 c.window) ∧ W.cell? ⟨w.heap.size, 4, none⟩ = some (.int .i64 c.precision) ∧ W.cell? ⟨w.heap.size, 5, none⟩ = some (.slice D nd cd) ∧ W.cell? ⟨w.heap.size, 6, none⟩ = some (.slice E ne ce) ∧ W.cell? ⟨w.heap.size, 7, none⟩ = some (.slice L nl cl) ∧ W.cell? ⟨w.heap.size, 8, none⟩ = some (.int .i64 c.queue) ∧ W.cell? ⟨w.heap.size + 1, 0, none⟩ = some (.int .i64 e.a) ∧ W.cell? ⟨w.heap.size + 1, 1, none⟩ = some (.int .u32 e.b) ∧ W.cell? ⟨w.heap.size + 1, 2, none⟩ = some (.int .i64 e.c) ∧ W.cell? ⟨w.heap.size + 1, 3, none⟩ = some (.int .i64 e.d) ∧ W.cell? ⟨g, 0, none⟩ = some (.int .i64 t0) ∧ W.cell? ⟨g, 1, none⟩ = some (.int .i64 t1) ∧ W.cell? ⟨g, 2, none⟩ = some (.int .i64 t2) ∧ W.cell? ⟨g, 3, none⟩ = some (.int .i64 t3) ∧ W.cell? ⟨g, 4, none⟩ = some (.int .i64 t4)) → Calls Try.prog 17 #[.agg #[.int .i64 c.hosts, .int .i64 c.cycle, .int .i64 c.delay, .int .i64 c.window, .int .i64 c.precision, .slice D nd cd, .slice E ne ce, .slice L nl cl, .int .i64 c.queue], .agg #[.int .i64 e.a, .int .u32 e.b, .int .i64 e.c, .int .i64 e.d]] W fun r W' => r = .returned (.int .i64 t3) ∧ (Hid (TX w g c D E L nd cd ne ce nl cl e t0 t1 t2 t3 t4 W') ∧ W'.cell? ⟨w.heap.size, 0, none⟩ = some (.int .i64 c.hosts) ∧ W'.cell? ⟨w.heap.size, 1, none⟩ = some (.int .i64 c.cycle) ∧ W'.cell? ⟨w.heap.size, 2, none⟩ = some (.int .i64 c.delay) ∧ W'.cell? ⟨w.heap.size, 3, none⟩ = some (.int .i64 c.window) ∧ W'.cell? ⟨w.heap.size, 4, none⟩ = some (.int .i64 c.precision) ∧ W'.cell? ⟨w.heap.size, 5, none⟩ = some (.slice D nd cd) ∧ W'.cell? ⟨w.heap.size, 6, none⟩ = some (.slice E ne ce) ∧ W'.cell? ⟨w.heap.size, 7, none⟩ = some (.slice L nl cl) ∧ W'.cell? ⟨w.heap.size, 8, none⟩ = some (.int .i64 c.queue) ∧ W'.cell? ⟨w.heap.size + 1, 0, none⟩ = some (.int .i64 e.a) ∧ W'.cell? ⟨w.heap.size + 1, 1, none⟩ = some (.int .u32 e.b) ∧ W'.cell? ⟨w.heap.size + 1, 2, none⟩ = some (.int .i64 e.c) ∧ W'.cell? ⟨w.heap.size + 1, 3, none⟩ = some (.int .i64 e.d) ∧ W'.cell? ⟨g, 0, none⟩ = some (.int .i64 t0) ∧ W'.cell? ⟨g, 1, none⟩ = some (.int .i64 t1) ∧ W'.cell? ⟨g, 2, none⟩ = some (.int .i64 t2) ∧ W'.cell? ⟨g, 3, none⟩ = some (.int .i64 t3) ∧ W'.cell? ⟨g, 4, none⟩ = some (.int .i64 t4)) from fun W hS => ((by have := early_any c D E L nd cd ne ce nl cl e W HE.out; rw [q3] at this; exact this : Calls Try.prog 17 #[.agg #[.int .i64 c.hosts, .int .i64 c.cycle, .int .i64 c.delay, .int .i64 c.window, .int .i64 c.precision, .slice D nd cd, .slice E ne ce, .slice L nl cl, .int .i64 c.queue], .agg #[.int .i64 e.a, .int .u32 e.b, .int .i64 e.c, .int .i64 e.d]] W fun r w' => r = .returned (.int .i64 t3) ∧ Below W.heap.size W w')).mono fun r W' ⟨hr, hb⟩ => ⟨hr, (hS.1.out.next hb).s⟩)
    have K4 := Lib.hid (show ∀ W, (Hid (TX w g c D E L nd cd ne ce nl cl e t0 t1 t2 t3 t4 W) ∧ W.cell? ⟨w.heap.size, 0, none⟩ = some (.int .i64 c.hosts) ∧ W.cell? ⟨w.heap.size, 1, none⟩ = some (.int .i64 c.cycle) ∧ W.cell? ⟨w.heap.size, 2, none⟩ = some (.int .i64 c.delay) ∧ W.cell? ⟨w.heap.size, 3, none⟩ = some (.int .i64 c.window) ∧ W.cell? ⟨w.heap.size, 4, none⟩ = some (.int .i64 c.precision) ∧ W.cell? ⟨w.heap.size, 5, none⟩ = some (.slice D nd cd) ∧ W.cell? ⟨w.heap.size, 6, none⟩ = some (.slice E ne ce) ∧ W.cell? ⟨w.heap.size, 7, none⟩ = some (.slice L nl cl) ∧ W.cell? ⟨w.heap.size, 8, none⟩ = some (.int .i64 c.queue) ∧ W.cell? ⟨w.heap.size + 1, 0, none⟩ = some (.int .i64 e.a) ∧ W.cell? ⟨w.heap.size + 1, 1, none⟩ = some (.int .u32 e.b) ∧ W.cell? ⟨w.heap.size + 1, 2, none⟩ = some (.int .i64 e.c) ∧ W.cell? ⟨w.heap.size + 1, 3, none⟩ = some (.int .i64 e.d) ∧ W.cell? ⟨g, 0, none⟩ = some (.int .i64 t0) ∧ W.cell? ⟨g, 1, none⟩ = some (.int .i64 t1) ∧ W.cell? ⟨g, 2, none⟩ = some (.int .i64 t2) ∧ W.cell? ⟨g, 3, none⟩ = some (.int .i64 t3) ∧ W.cell? ⟨g, 4, none⟩ = some (.int .i64 t4)) → Calls Try.prog 18 #[.agg #[.int .i64 c.hosts, .int .i64 c.cycle, .int .i64 c.delay, .int .i64 c.window, .int .i64 c.precision, .slice D nd cd, .slice E ne ce, .slice L nl cl, .int .i64 c.queue], .agg #[.int .i64 e.a, .int .u32 e.b, .int .i64 e.c, .int .i64 e.d]] W fun r W' => r = .returned (.int .i64 t4) ∧ (Hid (TX w g c D E L nd cd ne ce nl cl e t0 t1 t2 t3 t4 W') ∧ W'.cell? ⟨w.heap.size, 0, none⟩ = some (.int .i64 c.hosts) ∧ W'.cell? ⟨w.heap.size, 1, none⟩ = some (.int .i64 c.cycle) ∧ W'.cell? ⟨w.heap.size, 2, none⟩ = some (.int .i64 c.delay) ∧ W'.cell? ⟨w.heap.size, 3, none⟩ = some (.int .i64 c.window) ∧ W'.cell? ⟨w.heap.size, 4, none⟩ = some (.int .i64 c.precision) ∧ W'.cell? ⟨w.heap.size, 5, none⟩ = some (.slice D nd cd) ∧ W'.cell? ⟨w.heap.size, 6, none⟩ = some (.slice E ne ce) ∧ W'.cell? ⟨w.heap.size, 7, none⟩ = some (.slice L nl cl) ∧ W'.cell? ⟨w.heap.size, 8, none⟩ = some (.int .i64 c.queue) ∧ W'.cell? ⟨w.heap.size + 1, 0, none⟩ = some (.int .i64 e.a) ∧ W'.cell? ⟨w.heap.size + 1, 1, none⟩ = some (.int .u32 e.b) ∧ W'.cell? ⟨w.heap.size + 1, 2, none⟩ = some (.int .i64 e.c) ∧ W'.cell? ⟨w.heap.size + 1, 3, none⟩ = some (.int .i64 e.d) ∧ W'.cell? ⟨g, 0, none⟩ = some (.int .i64 t0) ∧ W'.cell? ⟨g, 1, none⟩ = some (.int .i64 t1) ∧ W'.cell? ⟨g, 2, none⟩ = some (.int .i64 t2) ∧ W'.cell? ⟨g, 3, none⟩ = some (.int .i64 t3) ∧ W'.cell? ⟨g, 4, none⟩ = some (.int .i64 t4)) from fun W hS => ((by have := late_any c D E L nd cd ne ce nl cl e W HE.out; rw [q4] at this; exact this : Calls Try.prog 18 #[.agg #[.int .i64 c.hosts, .int .i64 c.cycle, .int .i64 c.delay, .int .i64 c.window, .int .i64 c.precision, .slice D nd cd, .slice E ne ce, .slice L nl cl, .int .i64 c.queue], .agg #[.int .i64 e.a, .int .u32 e.b, .int .i64 e.c, .int .i64 e.d]] W fun r w' => r = .returned (.int .i64 t4) ∧ Below W.heap.size W w')).mono fun r W' ⟨hr, hb⟩ => ⟨hr, (hS.1.out.next hb).s⟩)
    have K5 := Lib.hid (show ∀ W, (Hid (TX w g c D E L nd cd ne ce nl cl e t0 t1 t2 t3 t4 W) ∧ W.cell? ⟨w.heap.size, 0, none⟩ = some (.int .i64 c.hosts) ∧ W.cell? ⟨w.heap.size, 1, none⟩ = some (.int .i64 c.cycle) ∧ W.cell? ⟨w.heap.size, 2, none⟩ = some (.int .i64 c.delay) ∧ W.cell? ⟨w.heap.size, 3, none⟩ = some (.int .i64 c.window) ∧ W.cell? ⟨w.heap.size, 4, none⟩ = some (.int .i64 c.precision) ∧ W.cell? ⟨w.heap.size, 5, none⟩ = some (.slice D nd cd) ∧ W.cell? ⟨w.heap.size, 6, none⟩ = some (.slice E ne ce) ∧ W.cell? ⟨w.heap.size, 7, none⟩ = some (.slice L nl cl) ∧ W.cell? ⟨w.heap.size, 8, none⟩ = some (.int .i64 c.queue) ∧ W.cell? ⟨w.heap.size + 1, 0, none⟩ = some (.int .i64 e.a) ∧ W.cell? ⟨w.heap.size + 1, 1, none⟩ = some (.int .u32 e.b) ∧ W.cell? ⟨w.heap.size + 1, 2, none⟩ = some (.int .i64 e.c) ∧ W.cell? ⟨w.heap.size + 1, 3, none⟩ = some (.int .i64 e.d) ∧ W.cell? ⟨g, 0, none⟩ = some (.int .i64 t0) ∧ W.cell? ⟨g, 1, none⟩ = some (.int .i64 t1) ∧ W.cell? ⟨g, 2, none⟩ = some (.int .i64 t2) ∧ W.cell? ⟨g, 3, none⟩ = some (.int .i64 t3) ∧ W.cell? ⟨g, 4, none⟩ = some (.int .i64 t4)) → Calls Try.prog 19 #[.agg #[.int .i64 c.hosts, .int .i64 c.cycle, .int .i64 c.delay, .int .i64 c.window, .int .i64 c.precision, .slice D nd cd, .slice E ne ce, .slice L nl cl, .int .i64 c.queue]] W fun r W' => r = .returned (.int .i64 (quiet c)) ∧ (Hid (TX w g c D E L nd cd ne ce nl cl e t0 t1 t2 t3 t4 W') ∧ W'.cell? ⟨w.heap.size, 0, none⟩ = some (.int .i64 c.hosts) ∧ W'.cell? ⟨w.heap.size, 1, none⟩ = some (.int .i64 c.cycle) ∧ W'.cell? ⟨w.heap.size, 2, none⟩ = some (.int .i64 c.delay) ∧ W'.cell? ⟨w.heap.size, 3, none⟩ = some (.int .i64 c.window) ∧ W'.cell? ⟨w.heap.size, 4, none⟩ = some (.int .i64 c.precision) ∧ W'.cell? ⟨w.heap.size, 5, none⟩ = some (.slice D nd cd) ∧ W'.cell? ⟨w.heap.size, 6, none⟩ = some (.slice E ne ce) ∧ W'.cell? ⟨w.heap.size, 7, none⟩ = some (.slice L nl cl) ∧ W'.cell? ⟨w.heap.size, 8, none⟩ = some (.int .i64 c.queue) ∧ W'.cell? ⟨w.heap.size + 1, 0, none⟩ = some (.int .i64 e.a) ∧ W'.cell? ⟨w.heap.size + 1, 1, none⟩ = some (.int .u32 e.b) ∧ W'.cell? ⟨w.heap.size + 1, 2, none⟩ = some (.int .i64 e.c) ∧ W'.cell? ⟨w.heap.size + 1, 3, none⟩ = some (.int .i64 e.d) ∧ W'.cell? ⟨g, 0, none⟩ = some (.int .i64 t0) ∧ W'.cell? ⟨g, 1, none⟩ = some (.int .i64 t1) ∧ W'.cell? ⟨g, 2, none⟩ = some (.int .i64 t2) ∧ W'.cell? ⟨g, 3, none⟩ = some (.int .i64 t3) ∧ W'.cell? ⟨g, 4, none⟩ = some (.int .i64 t4)) from fun W hS => (quiet_any c D E L nd cd ne ce nl cl W).mono fun r W' ⟨hr, hb⟩ => ⟨hr, (hS.1.out.next hb).s⟩)
    have K6 := Lib.hid (show ∀ W, (Hid (TX w g c D E L nd cd ne ce nl cl e t0 t1 t2 t3 t4 W) ∧ W.cell? ⟨w.heap.size, 0, none⟩ = some (.int .i64 c.hosts) ∧ W.cell? ⟨w.heap.size, 1, none⟩ = some (.int .i64 c.cycle) ∧ W.cell? ⟨w.heap.size, 2, none⟩ = some (.int .i64 c.delay) ∧ W.cell? ⟨w.heap.size, 3, none⟩ = some (.int .i64 c.window) ∧ W.cell? ⟨w.heap.size, 4, none⟩ = some (.int .i64 c.precision) ∧ W.cell? ⟨w.heap.size, 5, none⟩ = some (.slice D nd cd) ∧ W.cell? ⟨w.heap.size, 6, none⟩ = some (.slice E ne ce) ∧ W.cell? ⟨w.heap.size, 7, none⟩ = some (.slice L nl cl) ∧ W.cell? ⟨w.heap.size, 8, none⟩ = some (.int .i64 c.queue) ∧ W.cell? ⟨w.heap.size + 1, 0, none⟩ = some (.int .i64 e.a) ∧ W.cell? ⟨w.heap.size + 1, 1, none⟩ = some (.int .u32 e.b) ∧ W.cell? ⟨w.heap.size + 1, 2, none⟩ = some (.int .i64 e.c) ∧ W.cell? ⟨w.heap.size + 1, 3, none⟩ = some (.int .i64 e.d) ∧ W.cell? ⟨g, 0, none⟩ = some (.int .i64 t0) ∧ W.cell? ⟨g, 1, none⟩ = some (.int .i64 t1) ∧ W.cell? ⟨g, 2, none⟩ = some (.int .i64 t2) ∧ W.cell? ⟨g, 3, none⟩ = some (.int .i64 t3) ∧ W.cell? ⟨g, 4, none⟩ = some (.int .i64 t4)) → Calls Try.prog 20 #[.agg #[.int .i64 c.hosts, .int .i64 c.cycle, .int .i64 c.delay, .int .i64 c.window, .int .i64 c.precision, .slice D nd cd, .slice E ne ce, .slice L nl cl, .int .i64 c.queue]] W fun r W' => r = .returned (.int .i64 (quiet c)) ∧ (Hid (TX w g c D E L nd cd ne ce nl cl e t0 t1 t2 t3 t4 W') ∧ W'.cell? ⟨w.heap.size, 0, none⟩ = some (.int .i64 c.hosts) ∧ W'.cell? ⟨w.heap.size, 1, none⟩ = some (.int .i64 c.cycle) ∧ W'.cell? ⟨w.heap.size, 2, none⟩ = some (.int .i64 c.delay) ∧ W'.cell? ⟨w.heap.size, 3, none⟩ = some (.int .i64 c.window) ∧ W'.cell? ⟨w.heap.size, 4, none⟩ = some (.int .i64 c.precision) ∧ W'.cell? ⟨w.heap.size, 5, none⟩ = some (.slice D nd cd) ∧ W'.cell? ⟨w.heap.size, 6, none⟩ = some (.slice E ne ce) ∧ W'.cell? ⟨w.heap.size, 7, none⟩ = some (.slice L nl cl) ∧ W'.cell? ⟨w.heap.size, 8, none⟩ = some (.int .i64 c.queue) ∧ W'.cell? ⟨w.heap.size + 1, 0, none⟩ = some (.int .i64 e.a) ∧ W'.cell? ⟨w.heap.size + 1, 1, none⟩ = some (.int .u32 e.b) ∧ W'.cell? ⟨w.heap.size + 1, 2, none⟩ = some (.int .i64 e.c) ∧ W'.cell? ⟨w.heap.size + 1, 3, none⟩ = some (.int .i64 e.d) ∧ W'.cell? ⟨g, 0, none⟩ = some (.int .i64 t0) ∧ W'.cell? ⟨g, 1, none⟩ = some (.int .i64 t1) ∧ W'.cell? ⟨g, 2, none⟩ = some (.int .i64 t2) ∧ W'.cell? ⟨g, 3, none⟩ = some (.int .i64 t3) ∧ W'.cell? ⟨g, 4, none⟩ = some (.int .i64 t4)) from fun W hS => (refQuiet_any c D E L nd cd ne ce nl cl W).mono fun r W' ⟨hr, hb⟩ => ⟨hr, (hS.1.out.next hb).s⟩)
    generalize quiet c = qt at *
    clear q0 q1 q2 q3 q4
    go_wp2_with fail
    refine wp_region_held_drew (S := fun W : World => Hid (TX w g c D E L nd cd ne ce nl cl e t0 t1 t2 t3 t4 W) ∧ W.cell? ⟨w.heap.size, 0, none⟩ = some (.int .i64 c.hosts) ∧ W.cell? ⟨w.heap.size, 1, none⟩ = some (.int .i64 c.cycle) ∧ W.cell? ⟨w.heap.size, 2, none⟩ = some (.int .i64 c.delay) ∧ W.cell? ⟨w.heap.size, 3, none⟩ = some (.int .i64 c.window) ∧ W.cell? ⟨w.heap.size, 4, none⟩ = some (.int .i64 c.precision) ∧ W.cell? ⟨w.heap.size, 5, none⟩ = some (.slice D nd cd) ∧ W.cell? ⟨w.heap.size, 6, none⟩ = some (.slice E ne ce) ∧ W.cell? ⟨w.heap.size, 7, none⟩ = some (.slice L nl cl) ∧ W.cell? ⟨w.heap.size, 8, none⟩ = some (.int .i64 c.queue) ∧ W.cell? ⟨w.heap.size + 1, 0, none⟩ = some (.int .i64 e.a) ∧ W.cell? ⟨w.heap.size + 1, 1, none⟩ = some (.int .u32 e.b) ∧ W.cell? ⟨w.heap.size + 1, 2, none⟩ = some (.int .i64 e.c) ∧ W.cell? ⟨w.heap.size + 1, 3, none⟩ = some (.int .i64 e.d) ∧ W.cell? ⟨g, 0, none⟩ = some (.int .i64 t0) ∧ W.cell? ⟨g, 1, none⟩ = some (.int .i64 t1) ∧ W.cell? ⟨g, 2, none⟩ = some (.int .i64 t2) ∧ W.cell? ⟨g, 3, none⟩ = some (.int .i64 t3) ∧ W.cell? ⟨g, 4, none⟩ = some (.int .i64 t4)) (by kernel_rfl) (X5.out.drew.s) (fun hHeld => ?_)
    refine wpAnyH_take (i := 0) (oi := ⟨(some 22), _, _, _, _, _⟩) (v := ?_) rfl (by kernel_rfl) (by kernel_rfl) (by kernel_rfl) (fun _ _ _ h => h) (Or.inl ⟨by kernel_rfl, ?_⟩) (by assumption) ?_; rotate_left; (focus (intro w hSw; (try dsimp only at hSw); go_simp; (try with_reducible rfl)))
    simp only [Act.put, List.setIfInBounds_toArray, List.set_cons_zero, List.set_cons_succ]
    refine wpAnyH_take (i := 1) (oi := ⟨(some 23), _, _, _, _, _⟩) (v := ?_) rfl (by kernel_rfl) (by kernel_rfl) (by kernel_rfl) (fun _ _ _ h => h) (Or.inl ⟨by kernel_rfl, ?_⟩) (by assumption) ?_; rotate_left; (focus (intro w hSw; (try dsimp only at hSw); go_simp; (try with_reducible rfl)))
    simp only [Act.put, List.setIfInBounds_toArray, List.set_cons_zero, List.set_cons_succ]
    refine wpAnyH_take (i := 2) (oi := ⟨(some 24), _, _, _, _, _⟩) (v := ?_) rfl (by kernel_rfl) (by kernel_rfl) (by kernel_rfl) (fun _ _ _ h => h) (Or.inl ⟨by kernel_rfl, ?_⟩) (by assumption) ?_; rotate_left; (focus (intro w hSw; (try dsimp only at hSw); go_simp; (try with_reducible rfl)))
    simp only [Act.put, List.setIfInBounds_toArray, List.set_cons_zero, List.set_cons_succ]
    refine wpAnyH_take (i := 3) (oi := ⟨(some 25), _, _, _, _, _⟩) (v := ?_) rfl (by kernel_rfl) (by kernel_rfl) (by kernel_rfl) (fun _ _ _ h => h) (Or.inl ⟨by kernel_rfl, ?_⟩) (by assumption) ?_; rotate_left; (focus (intro w hSw; (try dsimp only at hSw); go_simp; (try with_reducible rfl)))
    simp only [Act.put, List.setIfInBounds_toArray, List.set_cons_zero, List.set_cons_succ]
    refine wpAnyH_take (i := 4) (oi := ⟨(some 26), _, _, _, _, _⟩) (v := ?_) rfl (by kernel_rfl) (by kernel_rfl) (by kernel_rfl) (fun _ _ _ h => h) (Or.inl ⟨by kernel_rfl, ?_⟩) (by assumption) ?_; rotate_left; (focus (intro w hSw; (try dsimp only at hSw); go_simp; (try with_reducible rfl)))
    simp only [Act.put, List.setIfInBounds_toArray, List.set_cons_zero, List.set_cons_succ]
    refine wpAnyH_take (i := 5) (oi := ⟨(some 27), _, _, _, _, _⟩) (v := ?_) rfl (by kernel_rfl) (by kernel_rfl) (by kernel_rfl) (fun _ _ _ h => h) (Or.inl ⟨by kernel_rfl, ?_⟩) (by assumption) ?_; rotate_left; (focus (intro w hSw; (try dsimp only at hSw); go_simp; (try with_reducible rfl)))
    simp only [Act.put, List.setIfInBounds_toArray, List.set_cons_zero, List.set_cons_succ]
    refine wpAnyH_take (i := 6) (oi := ⟨(some 28), _, _, _, _, _⟩) (v := ?_) rfl (by kernel_rfl) (by kernel_rfl) (by kernel_rfl) (fun _ _ _ h => h) (Or.inl ⟨by kernel_rfl, ?_⟩) (by assumption) ?_; rotate_left; (focus (intro w hSw; (try dsimp only at hSw); go_simp; (try with_reducible rfl)))
    simp only [Act.put, List.setIfInBounds_toArray, List.set_cons_zero, List.set_cons_succ]
    refine wpAnyH_take (i := 7) (oi := ⟨(some 29), _, _, _, _, _⟩) (v := ?_) rfl (by kernel_rfl) (by kernel_rfl) (by kernel_rfl) (fun _ _ _ h => h) (Or.inl ⟨by kernel_rfl, ?_⟩) (by assumption) ?_; rotate_left; (focus (intro w hSw; (try dsimp only at hSw); go_simp; (try with_reducible rfl)))
    simp only [Act.put, List.setIfInBounds_toArray, List.set_cons_zero, List.set_cons_succ]
    refine wpAnyH_take (i := 8) (oi := ⟨(some 30), _, _, _, _, _⟩) (v := ?_) rfl (by kernel_rfl) (by kernel_rfl) (by kernel_rfl) (fun _ _ _ h => h) (Or.inl ⟨by kernel_rfl, ?_⟩) (by assumption) ?_; rotate_left; (focus (intro w hSw; (try dsimp only at hSw); go_simp; (try with_reducible rfl)))
    simp only [Act.put, List.setIfInBounds_toArray, List.set_cons_zero, List.set_cons_succ]
    refine wpAnyH_take (i := 9) (oi := ⟨(some 31), _, _, _, _, _⟩) (v := ?_) rfl (by kernel_rfl) (by kernel_rfl) (by kernel_rfl) (fun _ _ _ h => h) (Or.inl ⟨by kernel_rfl, ?_⟩) (by assumption) ?_; rotate_left; (focus (intro w hSw; (try dsimp only at hSw); go_simp; (try with_reducible rfl)))
    simp only [Act.put, List.setIfInBounds_toArray, List.set_cons_zero, List.set_cons_succ]
    refine wpAnyH_take (i := 10) (oi := ⟨(some 32), _, _, _, _, _⟩) (v := ?_) rfl (by kernel_rfl) (by kernel_rfl) (by kernel_rfl) (fun _ _ _ h => h) (Or.inl ⟨by kernel_rfl, ?_⟩) (by assumption) ?_; rotate_left; (focus (intro w hSw; (try dsimp only at hSw); go_simp; (try with_reducible rfl)))
    simp only [Act.put, List.setIfInBounds_toArray, List.set_cons_zero, List.set_cons_succ]
    refine wpAnyH_take (i := 11) (oi := ⟨(some 33), _, _, _, _, _⟩) (v := ?_) rfl (by kernel_rfl) (by kernel_rfl) (by kernel_rfl) (fun _ _ _ h => h) (Or.inl ⟨by kernel_rfl, ?_⟩) (by assumption) ?_; rotate_left; (focus (intro w hSw; (try dsimp only at hSw); go_simp; (try with_reducible rfl)))
    simp only [Act.put, List.setIfInBounds_toArray, List.set_cons_zero, List.set_cons_succ]
    refine wpAnyH_take (i := 12) (oi := ⟨(some 34), _, _, _, _, _⟩) (v := ?_) rfl (by kernel_rfl) (by kernel_rfl) (by kernel_rfl) (fun _ _ _ h => h) (Or.inl ⟨by kernel_rfl, ?_⟩) (by assumption) ?_; rotate_left; (focus (intro w hSw; (try dsimp only at hSw); go_simp; (try with_reducible rfl)))
    simp only [Act.put, List.setIfInBounds_toArray, List.set_cons_zero, List.set_cons_succ]
    refine wpAnyH_take (i := 14) (oi := ⟨(some 36), _, _, _, _, _⟩) (v := ?_) rfl (by kernel_rfl) (by kernel_rfl) (by kernel_rfl) (fun _ _ _ h => h) (Or.inl ⟨by kernel_rfl, ?_⟩) (by assumption) ?_; rotate_left; (focus (intro w hSw; (try dsimp only at hSw); go_simp; (try with_reducible rfl)))
    simp only [Act.put, List.setIfInBounds_toArray, List.set_cons_zero, List.set_cons_succ]
    refine wpAnyH_take (i := 15) (oi := ⟨(some 37), _, _, _, _, _⟩) (v := ?_) rfl (by kernel_rfl) (by kernel_rfl) (by kernel_rfl) (fun _ _ _ h => h) (Or.inl ⟨by kernel_rfl, ?_⟩) (by assumption) ?_; rotate_left; (focus (intro w hSw; (try dsimp only at hSw); go_simp; (try with_reducible rfl)))
    simp only [Act.put, List.setIfInBounds_toArray, List.set_cons_zero, List.set_cons_succ]
    refine wpAnyH_ready (rs := [13]) (by kernel_rfl) (by simp) ?_
    refine AllReadyH.cons (o := ⟨(some 35), _, _, _, _, _⟩) rfl (fun K hK => ?_) AllReadyH.nil
    go_simp
    ((with_reducible refine (K2.out _ (by assumption)).mono ?_); rintro r w9 ⟨rfl, hs9⟩)
    go_simp
    refine hK.out _ _ (by assumption) (fun hHeld => ?_)
    clear hK K
    refine wpAnyH_take (i := 16) (oi := ⟨(some 38), _, _, _, _, _⟩) (v := ?_) rfl (by kernel_rfl) (by kernel_rfl) (by kernel_rfl) (fun _ _ _ h => h) (Or.inl ⟨by kernel_rfl, ?_⟩) (by assumption) ?_; rotate_left; (focus (intro w hSw; (try dsimp only at hSw); go_simp; (try with_reducible rfl)))
    simp only [Act.put, List.setIfInBounds_toArray, List.set_cons_zero, List.set_cons_succ]
    refine wpAnyH_take (i := 17) (oi := ⟨(some 39), _, _, _, _, _⟩) (v := ?_) rfl (by kernel_rfl) (by kernel_rfl) (by kernel_rfl) (fun _ _ _ h => h) (Or.inl ⟨by kernel_rfl, ?_⟩) (by assumption) ?_; rotate_left; (focus (intro w hSw; (try dsimp only at hSw); go_simp; (try with_reducible rfl)))
    simp only [Act.put, List.setIfInBounds_toArray, List.set_cons_zero, List.set_cons_succ]
    refine wpAnyH_take (i := 18) (oi := ⟨(some 40), _, _, _, _, _⟩) (v := ?_) rfl (by kernel_rfl) (by kernel_rfl) (by kernel_rfl) (fun _ _ _ h => h) (Or.inl ⟨by kernel_rfl, ?_⟩) (by assumption) ?_; rotate_left; (focus (intro w hSw; (try dsimp only at hSw); go_simp; (try with_reducible rfl)))
    simp only [Act.put, List.setIfInBounds_toArray, List.set_cons_zero, List.set_cons_succ]
    refine wpAnyH_take (i := 19) (oi := ⟨(some 41), _, _, _, _, _⟩) (v := ?_) rfl (by kernel_rfl) (by kernel_rfl) (by kernel_rfl) (fun _ _ _ h => h) (Or.inl ⟨by kernel_rfl, ?_⟩) (by assumption) ?_; rotate_left; (focus (intro w hSw; (try dsimp only at hSw); go_simp; (try with_reducible rfl)))
    simp only [Act.put, List.setIfInBounds_toArray, List.set_cons_zero, List.set_cons_succ]
    refine wpAnyH_take (i := 20) (oi := ⟨(some 42), _, _, _, _, _⟩) (v := ?_) rfl (by kernel_rfl) (by kernel_rfl) (by kernel_rfl) (fun _ _ _ h => h) (Or.inl ⟨by kernel_rfl, ?_⟩) (by assumption) ?_; rotate_left; (focus (intro w hSw; (try dsimp only at hSw); go_simp; (try with_reducible rfl)))
    simp only [Act.put, List.setIfInBounds_toArray, List.set_cons_zero, List.set_cons_succ]
    refine wpAnyH_take (i := 22) (oi := ⟨(some 44), _, _, _, _, _⟩) (v := ?_) rfl (by kernel_rfl) (by kernel_rfl) (by kernel_rfl) (fun _ _ _ h => h) (Or.inl ⟨by kernel_rfl, ?_⟩) (by assumption) ?_; rotate_left; (focus (intro w hSw; (try dsimp only at hSw); go_simp; (try with_reducible rfl)))
    simp only [Act.put, List.setIfInBounds_toArray, List.set_cons_zero, List.set_cons_succ]
    refine wpAnyH_take (i := 23) (oi := ⟨(some 45), _, _, _, _, _⟩) (v := ?_) rfl (by kernel_rfl) (by kernel_rfl) (by kernel_rfl) (fun _ _ _ h => h) (Or.inl ⟨by kernel_rfl, ?_⟩) (by assumption) ?_; rotate_left; (focus (intro w hSw; (try dsimp only at hSw); go_simp; (try with_reducible rfl)))
    simp only [Act.put, List.setIfInBounds_toArray, List.set_cons_zero, List.set_cons_succ]
    refine wpAnyH_ready (rs := [21]) (by kernel_rfl) (by simp) ?_
    refine AllReadyH.cons (o := ⟨(some 43), _, _, _, _, _⟩) rfl (fun K hK => ?_) AllReadyH.nil
    go_simp
    ((with_reducible refine (K3.out _ (by assumption)).mono ?_); rintro r w9 ⟨rfl, hs9⟩)
    go_simp
    refine hK.out _ _ (by assumption) (fun hHeld => ?_)
    clear hK K
    refine wpAnyH_take (i := 24) (oi := ⟨(some 46), _, _, _, _, _⟩) (v := ?_) rfl (by kernel_rfl) (by kernel_rfl) (by kernel_rfl) (fun _ _ _ h => h) (Or.inl ⟨by kernel_rfl, ?_⟩) (by assumption) ?_; rotate_left; (focus (intro w hSw; (try dsimp only at hSw); go_simp; (try with_reducible rfl)))
    simp only [Act.put, List.setIfInBounds_toArray, List.set_cons_zero, List.set_cons_succ]
    refine wpAnyH_take (i := 25) (oi := ⟨(some 47), _, _, _, _, _⟩) (v := ?_) rfl (by kernel_rfl) (by kernel_rfl) (by kernel_rfl) (fun _ _ _ h => h) (Or.inl ⟨by kernel_rfl, ?_⟩) (by assumption) ?_; rotate_left; (focus (intro w hSw; (try dsimp only at hSw); go_simp; (try with_reducible rfl)))
    simp only [Act.put, List.setIfInBounds_toArray, List.set_cons_zero, List.set_cons_succ]
    refine wpAnyH_take (i := 26) (oi := ⟨(some 48), _, _, _, _, _⟩) (v := ?_) rfl (by kernel_rfl) (by kernel_rfl) (by kernel_rfl) (fun _ _ _ h => h) (Or.inl ⟨by kernel_rfl, ?_⟩) (by assumption) ?_; rotate_left; (focus (intro w hSw; (try dsimp only at hSw); go_simp; (try with_reducible rfl)))
    simp only [Act.put, List.setIfInBounds_toArray, List.set_cons_zero, List.set_cons_succ]
    refine wpAnyH_take (i := 27) (oi := ⟨(some 49), _, _, _, _, _⟩) (v := ?_) rfl (by kernel_rfl) (by kernel_rfl) (by kernel_rfl) (fun _ _ _ h => h) (Or.inl ⟨by kernel_rfl, ?_⟩) (by assumption) ?_; rotate_left; (focus (intro w hSw; (try dsimp only at hSw); go_simp; (try with_reducible rfl)))
    simp only [Act.put, List.setIfInBounds_toArray, List.set_cons_zero, List.set_cons_succ]
    refine wpAnyH_take (i := 28) (oi := ⟨(some 50), _, _, _, _, _⟩) (v := ?_) rfl (by kernel_rfl) (by kernel_rfl) (by kernel_rfl) (fun _ _ _ h => h) (Or.inl ⟨by kernel_rfl, ?_⟩) (by assumption) ?_; rotate_left; (focus (intro w hSw; (try dsimp only at hSw); go_simp; (try with_reducible rfl)))
    simp only [Act.put, List.setIfInBounds_toArray, List.set_cons_zero, List.set_cons_succ]
    refine wpAnyH_take (i := 30) (oi := ⟨(some 52), _, _, _, _, _⟩) (v := ?_) rfl (by kernel_rfl) (by kernel_rfl) (by kernel_rfl) (fun _ _ _ h => h) (Or.inl ⟨by kernel_rfl, ?_⟩) (by assumption) ?_; rotate_left; (focus (intro w hSw; (try dsimp only at hSw); go_simp; (try with_reducible rfl)))
    simp only [Act.put, List.setIfInBounds_toArray, List.set_cons_zero, List.set_cons_succ]
    refine wpAnyH_take (i := 31) (oi := ⟨(some 53), _, _, _, _, _⟩) (v := ?_) rfl (by kernel_rfl) (by kernel_rfl) (by kernel_rfl) (fun _ _ _ h => h) (Or.inl ⟨by kernel_rfl, ?_⟩) (by assumption) ?_; rotate_left; (focus (intro w hSw; (try dsimp only at hSw); go_simp; (try with_reducible rfl)))
    simp only [Act.put, List.setIfInBounds_toArray, List.set_cons_zero, List.set_cons_succ]
    refine wpAnyH_ready (rs := [29]) (by kernel_rfl) (by simp) ?_
    refine AllReadyH.cons (o := ⟨(some 51), _, _, _, _, _⟩) rfl (fun K hK => ?_) AllReadyH.nil
    go_simp
    ((with_reducible refine (K4.out _ (by assumption)).mono ?_); rintro r w9 ⟨rfl, hs9⟩)
    go_simp
    refine hK.out _ _ (by assumption) (fun hHeld => ?_)
    clear hK K
    refine wpAnyH_take (i := 32) (oi := ⟨(some 54), _, _, _, _, _⟩) (v := ?_) rfl (by kernel_rfl) (by kernel_rfl) (by kernel_rfl) (fun _ _ _ h => h) (Or.inl ⟨by kernel_rfl, ?_⟩) (by assumption) ?_; rotate_left; (focus (intro w hSw; (try dsimp only at hSw); go_simp; (try with_reducible rfl)))
    simp only [Act.put, List.setIfInBounds_toArray, List.set_cons_zero, List.set_cons_succ]
    refine wpAnyH_take (i := 33) (oi := ⟨(some 55), _, _, _, _, _⟩) (v := ?_) rfl (by kernel_rfl) (by kernel_rfl) (by kernel_rfl) (fun _ _ _ h => h) (Or.inl ⟨by kernel_rfl, ?_⟩) (by assumption) ?_; rotate_left; (focus (intro w hSw; (try dsimp only at hSw); go_simp; (try with_reducible rfl)))
    simp only [Act.put, List.setIfInBounds_toArray, List.set_cons_zero, List.set_cons_succ]
    refine wpAnyH_take (i := 34) (oi := ⟨(some 56), _, _, _, _, _⟩) (v := ?_) rfl (by kernel_rfl) (by kernel_rfl) (by kernel_rfl) (fun _ _ _ h => h) (Or.inl ⟨by kernel_rfl, ?_⟩) (by assumption) ?_; rotate_left; (focus (intro w hSw; (try dsimp only at hSw); go_simp; (try with_reducible rfl)))
    simp only [Act.put, List.setIfInBounds_toArray, List.set_cons_zero, List.set_cons_succ]
    refine wpAnyH_take (i := 35) (oi := ⟨(some 57), _, _, _, _, _⟩) (v := ?_) rfl (by kernel_rfl) (by kernel_rfl) (by kernel_rfl) (fun _ _ _ h => h) (Or.inl ⟨by kernel_rfl, ?_⟩) (by assumption) ?_; rotate_left; (focus (intro w hSw; (try dsimp only at hSw); go_simp; (try with_reducible rfl)))
    simp only [Act.put, List.setIfInBounds_toArray, List.set_cons_zero, List.set_cons_succ]
    refine wpAnyH_take (i := 37) (oi := ⟨(some 59), _, _, _, _, _⟩) (v := ?_) rfl (by kernel_rfl) (by kernel_rfl) (by kernel_rfl) (fun _ _ _ h => h) (Or.inl ⟨by kernel_rfl, ?_⟩) (by assumption) ?_; rotate_left; (focus (intro w hSw; (try dsimp only at hSw); go_simp; (try with_reducible rfl)))
    simp only [Act.put, List.setIfInBounds_toArray, List.set_cons_zero, List.set_cons_succ]
    refine wpAnyH_ready (rs := [36]) (by kernel_rfl) (by simp) ?_
    refine AllReadyH.cons (o := ⟨(some 58), _, _, _, _, _⟩) rfl (fun K hK => ?_) AllReadyH.nil
    go_simp
    ((with_reducible refine (K5.out _ (by assumption)).mono ?_); rintro r w9 ⟨rfl, hs9⟩)
    go_simp
    refine hK.out _ _ (by assumption) (fun hHeld => ?_)
    clear hK K
    refine wpAnyH_ready (rs := [38]) (by kernel_rfl) (by simp) ?_
    refine AllReadyH.cons (o := ⟨(some 60), _, _, _, _, _⟩) rfl (fun K hK => ?_) AllReadyH.nil
    go_simp
    ((with_reducible refine (K6.out _ (by assumption)).mono ?_); rintro r w9 ⟨rfl, hs9⟩)
    go_simp
    refine hK.out _ _ (by assumption) (fun hHeld => ?_)
    clear hK K
    refine wpAnyH_take (i := 39) (oi := ⟨(some 61), _, _, _, _, _⟩) (v := ?_) rfl (by kernel_rfl) (by kernel_rfl) (by kernel_rfl) (fun _ _ _ h => h) (Or.inl ⟨by kernel_rfl, ?_⟩) (by assumption) ?_; rotate_left; (focus (intro w hSw; (try dsimp only at hSw); go_simp; (try with_reducible rfl)))
    simp only [Act.put, List.setIfInBounds_toArray, List.set_cons_zero, List.set_cons_succ]
    refine wpAnyH_take (i := 40) (oi := ⟨(some 62), _, _, _, _, _⟩) (v := ?_) rfl (by kernel_rfl) (by kernel_rfl) (by kernel_rfl) (fun _ _ _ h => h) (Or.inl ⟨by kernel_rfl, ?_⟩) (by assumption) ?_; rotate_left; (focus (intro w hSw; (try dsimp only at hSw); go_simp; (try with_reducible rfl)))
    simp only [Act.put, List.setIfInBounds_toArray, List.set_cons_zero, List.set_cons_succ]
    refine wpAnyH_take (i := 41) (oi := ⟨(some 4), _, _, _, _, _⟩) (v := ?_) rfl (by kernel_rfl) (by kernel_rfl) (by kernel_rfl) (fun _ _ _ h => h) (Or.inl ⟨by kernel_rfl, ?_⟩) (by assumption) ?_; rotate_left; (focus (intro w hSw; (try dsimp only at hSw); go_simp; (try with_reducible rfl)))
    simp only [Act.put, List.setIfInBounds_toArray, List.set_cons_zero, List.set_cons_succ]
    refine wpAnyH_done (by kernel_rfl) ?_ _
    obtain ⟨Y, -⟩ := hHeld
    go_wp2
    go_ret
    exact ⟨rfl, Y.out.b.b⟩
set_option maxRecDepth 100000 in
/-- What the walk gives, for every argument and every world. -/
theorem contract (H : Type) (enc : TypeId × Value → H) (W : World) (base : Nat) (args : Array Value) (ds gs : List (DataW H)) (before : List MemPlace)
    (hval : ∀ (j : Nat) t v, Try.f4.params[j]? = some t → args[j]? = some v → Value.okWide Try.prog W .any base t v)
    (hW : DataW.Whole enc Try.prog Try.f4.params.toList Rows.confTimesSpec.vars false W args.toList ds gs before) : 
    Calls Try.prog 4 args W fun e W' => ∃ v, e = .returned v ∧ Rows.confTimesSpec.post enc Try.prog Try.f4 false true false false W args v W' := by
  have hW' := hW
  obtain ⟨p, q, hA0, hV, rfl, hfz, hnd⟩ := hW
  have hA : DataW.TrodAll enc Try.prog W 0 (fun _ => true) true Try.f4.params.toList args.toList ds p := hA0
  rw [Try.params4] at hA hval
  obtain ⟨v0, vs0, d0, ds0, p0, q0, hargs, rfl, rfl, h0, r0⟩ := trodAll_cons hA
  obtain ⟨v1, vs1, d1, ds1, p1, q1, rfl, rfl, rfl, h1, r1⟩ := trodAll_cons r0
  obtain ⟨rfl, rfl, rfl⟩ := trodAll_nil r1
  obtain rfl : args = #[v0, v1] := by cases args; simp_all
  obtain ⟨rfl, rfl⟩ := trodVars_none hV
  obtain ⟨c0, D0, E0, L0, nd0, cd0, ne0, ce0, nl0, cl0, rfl, m0, s0⟩ := open_cfg (hval 0 26 v0 rfl rfl) h0
  obtain ⟨e1, rfl, b1⟩ := open_ent (hval 1 32 v1 rfl rfl) h1
  refine (walk c0 D0 E0 L0 nd0 cd0 ne0 ce0 nl0 cl0 e1 W b1).mono fun e W' ⟨he, hb⟩ => ?_
  exact ⟨_, he, Shell.post_law laidOut (by kernel_rfl) rfl Try.underlying4 rfl hW' rfl hb⟩
theorem reads (os : Os) {H : Type} (enc : TypeId × Value → H) : ∃ places, DataW.whole enc Try.prog ((World.holding Try.prog os ⟨#[], #[], []⟩).forCall (fun _ _ => 0) ⟨#[], #[.agg #[.int .i64 0, .int .i64 0, .int .i64 0, .int .i64 0, .int .i64 0, .slice none 0 0, .slice none 0 0, .slice none 0 0, .int .i64 0], .agg #[.int .i64 0, .int .u32 0, .int .i64 0, .int .i64 0]], []⟩).memory Try.f4.params.toList Rows.confTimesSpec.vars false (#[Value.agg #[.int .i64 0, .int .i64 0, .int .i64 0, .int .i64 0, .int .i64 0, .slice none 0 0, .slice none 0 0, .slice none 0 0, .int .i64 0], Value.agg #[.int .i64 0, .int .u32 0, .int .i64 0, .int .i64 0]]).toList 8 = some ([.agg [.lit (.int .i64 0), .lit (.int .i64 0), .lit (.int .i64 0), .lit (.int .i64 0), .lit (.int .i64 0), .nil, .nil, .nil, .lit (.int .i64 0)], .agg [.lit (.int .i64 0), .lit (.int .u32 0), .lit (.int .i64 0), .lit (.int .i64 0)]], [], places) :=
  ⟨[], by kernel_rfl⟩
set_option maxRecDepth 100000 in
theorem lifted (os : Os) (started : os.Started) (H : Type) (enc : TypeId × Value → H) (F : Stop.Interp) :
    ReturnsInHanded {} Try.checked os 4 .any ((OpenSpec.ofChange Rows.confTimesSpec).preRow enc Try.prog Try.f4 Rows.confTimesRow.domain false Rows.confTimesRow.laid) (((OpenSpec.ofChange Rows.confTimesSpec).at F).post enc Try.prog Try.f4 false true false false) := by
  obtain ⟨places, hx⟩ := reads os enc
  refine returnsInHanded_of_row (C := Try.checked) (s := OpenSpec.ofChange Rows.confTimesSpec) own started (by kernel_rfl) Try.func4
    (witness_row_atRef (enc := enc) (C := Try.checked) false (World.holding Try.prog os ⟨#[], #[], []⟩) #[.agg #[.int .i64 0, .int .i64 0, .int .i64 0, .int .i64 0, .int .i64 0, .slice none 0 0, .slice none 0 0, .slice none 0 0, .int .i64 0], .agg #[.int .i64 0, .int .u32 0, .int .i64 0, .int .i64 0]] rfl (by kernel_rfl) (by kernel_rfl) (by kernel_rfl)
      (OpenSpec.preRow_of_cond 8 hx (by kernel_rfl) (fun k hk => by cases hk) (by kernel_rfl) (laid_met os _))) ?_
  intro W base args ds gs before hval hW _ _ _ hL _ _
  exact contract H enc W base args ds gs before hval hW
theorem said : Rows.ConfTimesSaid :=
  OpenClaim.holds_of_cond 4 Try.f4 rfl rfl rfl rfl rfl rfl rfl ⟨rfl, rfl, rfl, rfl, rfl⟩ rfl rfl rfl rfl rfl (by kernel_rfl) Try.func4 (by kernel_rfl)
    (of_decide_eq_true (by kernel_rfl)) (by unfold Func.isWrapper; first | (rw [if_pos (by decide +kernel)]; kernel_rfl) | (rw [if_neg (by decide +kernel)]; exact ⟨rfl, rfl⟩))
    (fun os started H enc _ F => by rw [OpenClaim.pre_eq_preRow]; exact lifted os started H enc F)
end Go.Proofs.Ytooamddipdjaoaa.ConfW.ConfTimes
