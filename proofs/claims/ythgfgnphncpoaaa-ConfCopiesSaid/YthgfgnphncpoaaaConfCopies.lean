/- The law ConfCopies: a copy is the same, and in memory of its own; two are the same field by field: for all configurations. No condition. -/
import Derived.Test.YthgfgnphncpoaaaConfCp
import Derived.Test.YthgfgnphncpoaaaConfCpB
import Derived.Test.YthgfgnphncpoaaaConfSm
import Derived.Test.YthgfgnphncpoaaaConfCpZ
namespace Go.Proofs.Ythgfgnphncpoaaa.ConfW.ConfCopies
open Go.ChangeShapes Go.WideShapes Go.ChangeAt Go.RowKit ConfW Shell
set_option maxHeartbeats 16000000 in
set_option maxRecDepth 100000 in
theorem walk (c : Cfg) (D E L : Option Addr) (nd cd ne ce nl cl : Nat) (d : Cfg) (D2 E2 L2 : Option Addr) (nd2 cd2 ne2 ce2 nl2 cl2 : Nat) (w : World) (h : CM w c D E L nd cd ne ce nl cl) (g : CM w d D2 E2 L2 nd2 cd2 ne2 ce2 nl2 cl2)
    (bd : nd * 24 ≤ 140737488355328) (br : ∀ r ∈ c.delays, r.length * 8 ≤ 140737488355328) (be : ne * 32 ≤ 140737488355328) (bl : nl * 32 ≤ 140737488355328) :
    Calls Try.prog 3 #[.agg #[.int .i64 c.hosts, .int .i64 c.cycle, .int .i64 c.delay, .int .i64 c.window, .int .i64 c.precision, .slice D nd cd, .slice E ne ce, .slice L nl cl, .int .i64 c.queue], .agg #[.int .i64 d.hosts, .int .i64 d.cycle, .int .i64 d.delay, .int .i64 d.window, .int .i64 d.precision, .slice D2 nd2 cd2, .slice E2 ne2 ce2, .slice L2 nl2 cl2, .int .i64 d.queue]] w fun r w' => r = .returned (.bool true) ∧ Below w.heap.size w w' := by
  have HA := Lib.hid h
  have HB := Lib.hid g
  have BD := Lib.hid (And.intro bd (And.intro br (And.intro be bl)))
  have X0 := Lib.hid (QX.start (w0 := w) (c := c) (D := D) (E := E) (L := L) (nd := nd) (cd := cd) (ne := ne) (ce := ce) (nl := nl) (cl := cl) (d := d) (D2 := D2) (E2 := E2) (L2 := L2) (nd2 := nd2) (cd2 := cd2) (ne2 := ne2) (ce2 := ce2) (nl2 := nl2) (cl2 := cl2))
  have H1 := Lib.hid (fun W (hW : QX w c D E L nd cd ne ce nl cl d D2 E2 L2 nd2 cd2 ne2 ce2 nl2 cl2 W) => (equal_any c D E L nd cd ne ce nl cl d D2 E2 L2 nd2 cd2 ne2 ce2 nl2 cl2 W (h.below hW.b0) (g.below hW.b0)).mono (fun r W' (p : _ ∧ _) => (⟨p.1, (hW.next p.2).s⟩ : r = _ ∧ (Hid (QX w c D E L nd cd ne ce nl cl d D2 E2 L2 nd2 cd2 ne2 ce2 nl2 cl2 W') ∧ W'.cell? ⟨w.heap.size, 0, none⟩ = some (.int .i64 c.hosts) ∧ W'.cell? ⟨w.heap.size, 1, none⟩ = some (.int .i64 c.cycle) ∧ W'.cell? ⟨w.heap.size, 2, none⟩ = some (.int .i64 c.delay) ∧ W'.cell? ⟨w.heap.size, 3, none⟩ = some (.int .i64 c.window) ∧ W'.cell? ⟨w.heap.size, 4, none⟩ = some (.int .i64 c.precision) ∧ W'.cell? ⟨w.heap.size, 5, none⟩ = some (.slice D nd cd) ∧ W'.cell? ⟨w.heap.size, 6, none⟩ = some (.slice E ne ce) ∧ W'.cell? ⟨w.heap.size, 7, none⟩ = some (.slice L nl cl) ∧ W'.cell? ⟨w.heap.size, 8, none⟩ = some (.int .i64 c.queue) ∧ W'.cell? ⟨w.heap.size + 1, 0, none⟩ = some (.int .i64 d.hosts) ∧ W'.cell? ⟨w.heap.size + 1, 1, none⟩ = some (.int .i64 d.cycle) ∧ W'.cell? ⟨w.heap.size + 1, 2, none⟩ = some (.int .i64 d.delay) ∧ W'.cell? ⟨w.heap.size + 1, 3, none⟩ = some (.int .i64 d.window) ∧ W'.cell? ⟨w.heap.size + 1, 4, none⟩ = some (.int .i64 d.precision) ∧ W'.cell? ⟨w.heap.size + 1, 5, none⟩ = some (.slice D2 nd2 cd2) ∧ W'.cell? ⟨w.heap.size + 1, 6, none⟩ = some (.slice E2 ne2 ce2) ∧ W'.cell? ⟨w.heap.size + 1, 7, none⟩ = some (.slice L2 nl2 cl2) ∧ W'.cell? ⟨w.heap.size + 1, 8, none⟩ = some (.int .i64 d.queue)))))
  have H2 := Lib.hid (fun W (hW : QX w c D E L nd cd ne ce nl cl d D2 E2 L2 nd2 cd2 ne2 ce2 nl2 cl2 W) => (same_any c D E L nd cd ne ce nl cl d D2 E2 L2 nd2 cd2 ne2 ce2 nl2 cl2 W (h.below hW.b0) (g.below hW.b0)).mono (fun r W' (p : _ ∧ _) => (⟨p.1, (hW.next p.2).s⟩ : r = _ ∧ (Hid (QX w c D E L nd cd ne ce nl cl d D2 E2 L2 nd2 cd2 ne2 ce2 nl2 cl2 W') ∧ W'.cell? ⟨w.heap.size, 0, none⟩ = some (.int .i64 c.hosts) ∧ W'.cell? ⟨w.heap.size, 1, none⟩ = some (.int .i64 c.cycle) ∧ W'.cell? ⟨w.heap.size, 2, none⟩ = some (.int .i64 c.delay) ∧ W'.cell? ⟨w.heap.size, 3, none⟩ = some (.int .i64 c.window) ∧ W'.cell? ⟨w.heap.size, 4, none⟩ = some (.int .i64 c.precision) ∧ W'.cell? ⟨w.heap.size, 5, none⟩ = some (.slice D nd cd) ∧ W'.cell? ⟨w.heap.size, 6, none⟩ = some (.slice E ne ce) ∧ W'.cell? ⟨w.heap.size, 7, none⟩ = some (.slice L nl cl) ∧ W'.cell? ⟨w.heap.size, 8, none⟩ = some (.int .i64 c.queue) ∧ W'.cell? ⟨w.heap.size + 1, 0, none⟩ = some (.int .i64 d.hosts) ∧ W'.cell? ⟨w.heap.size + 1, 1, none⟩ = some (.int .i64 d.cycle) ∧ W'.cell? ⟨w.heap.size + 1, 2, none⟩ = some (.int .i64 d.delay) ∧ W'.cell? ⟨w.heap.size + 1, 3, none⟩ = some (.int .i64 d.window) ∧ W'.cell? ⟨w.heap.size + 1, 4, none⟩ = some (.int .i64 d.precision) ∧ W'.cell? ⟨w.heap.size + 1, 5, none⟩ = some (.slice D2 nd2 cd2) ∧ W'.cell? ⟨w.heap.size + 1, 6, none⟩ = some (.slice E2 ne2 ce2) ∧ W'.cell? ⟨w.heap.size + 1, 7, none⟩ = some (.slice L2 nl2 cl2) ∧ W'.cell? ⟨w.heap.size + 1, 8, none⟩ = some (.int .i64 d.queue)))))
  have H3 := Lib.hid (fun W (hW : QX w c D E L nd cd ne ce nl cl d D2 E2 L2 nd2 cd2 ne2 ce2 nl2 cl2 W) => (equal_any c D E L nd cd ne ce nl cl c D E L nd cd ne ce nl cl W (h.below hW.b0) (h.below hW.b0)).mono (fun r W' (p : _ ∧ _) => (⟨p.1.trans (by rw [eqC_self]), (hW.next p.2).s⟩ : r = .returned (.bool true) ∧ (Hid (QX w c D E L nd cd ne ce nl cl d D2 E2 L2 nd2 cd2 ne2 ce2 nl2 cl2 W') ∧ W'.cell? ⟨w.heap.size, 0, none⟩ = some (.int .i64 c.hosts) ∧ W'.cell? ⟨w.heap.size, 1, none⟩ = some (.int .i64 c.cycle) ∧ W'.cell? ⟨w.heap.size, 2, none⟩ = some (.int .i64 c.delay) ∧ W'.cell? ⟨w.heap.size, 3, none⟩ = some (.int .i64 c.window) ∧ W'.cell? ⟨w.heap.size, 4, none⟩ = some (.int .i64 c.precision) ∧ W'.cell? ⟨w.heap.size, 5, none⟩ = some (.slice D nd cd) ∧ W'.cell? ⟨w.heap.size, 6, none⟩ = some (.slice E ne ce) ∧ W'.cell? ⟨w.heap.size, 7, none⟩ = some (.slice L nl cl) ∧ W'.cell? ⟨w.heap.size, 8, none⟩ = some (.int .i64 c.queue) ∧ W'.cell? ⟨w.heap.size + 1, 0, none⟩ = some (.int .i64 d.hosts) ∧ W'.cell? ⟨w.heap.size + 1, 1, none⟩ = some (.int .i64 d.cycle) ∧ W'.cell? ⟨w.heap.size + 1, 2, none⟩ = some (.int .i64 d.delay) ∧ W'.cell? ⟨w.heap.size + 1, 3, none⟩ = some (.int .i64 d.window) ∧ W'.cell? ⟨w.heap.size + 1, 4, none⟩ = some (.int .i64 d.precision) ∧ W'.cell? ⟨w.heap.size + 1, 5, none⟩ = some (.slice D2 nd2 cd2) ∧ W'.cell? ⟨w.heap.size + 1, 6, none⟩ = some (.slice E2 ne2 ce2) ∧ W'.cell? ⟨w.heap.size + 1, 7, none⟩ = some (.slice L2 nl2 cl2) ∧ W'.cell? ⟨w.heap.size + 1, 8, none⟩ = some (.int .i64 d.queue)))))
  generalize eqC c d = q at *
  have qq : (q != q) = false := by simp
  clear h g bd br be bl
  go_enter Try.func3, Try.ntmps3
  go_wp2_with fail
  refine (fixed_any _).mono ?_
  rintro r w1 ⟨rfl, b1⟩
  have X1 := Lib.hid (X0.out.next b1)
  obtain ⟨-, a0, a1, a2, a3, a4, a5, a6, a7, a8, d0, d1, d2, d3, d4, d5, d6, d7, d8⟩ := X1.out.s
  clear b1 X0
  go_wp2_with fail
  go_region_held3 (fun W : World => Hid (QX w c D E L nd cd ne ce nl cl d D2 E2 L2 nd2 cd2 ne2 ce2 nl2 cl2 W) ∧ W.cell? ⟨w.heap.size, 0, none⟩ = some (.int .i64 c.hosts) ∧ W.cell? ⟨w.heap.size, 1, none⟩ = some (.int .i64 c.cycle) ∧ W.cell? ⟨w.heap.size, 2, none⟩ = some (.int .i64 c.delay) ∧ W.cell? ⟨w.heap.size, 3, none⟩ = some (.int .i64 c.window) ∧ W.cell? ⟨w.heap.size, 4, none⟩ = some (.int .i64 c.precision) ∧ W.cell? ⟨w.heap.size, 5, none⟩ = some (.slice D nd cd) ∧ W.cell? ⟨w.heap.size, 6, none⟩ = some (.slice E ne ce) ∧ W.cell? ⟨w.heap.size, 7, none⟩ = some (.slice L nl cl) ∧ W.cell? ⟨w.heap.size, 8, none⟩ = some (.int .i64 c.queue) ∧ W.cell? ⟨w.heap.size + 1, 0, none⟩ = some (.int .i64 d.hosts) ∧ W.cell? ⟨w.heap.size + 1, 1, none⟩ = some (.int .i64 d.cycle) ∧ W.cell? ⟨w.heap.size + 1, 2, none⟩ = some (.int .i64 d.delay) ∧ W.cell? ⟨w.heap.size + 1, 3, none⟩ = some (.int .i64 d.window) ∧ W.cell? ⟨w.heap.size + 1, 4, none⟩ = some (.int .i64 d.precision) ∧ W.cell? ⟨w.heap.size + 1, 5, none⟩ = some (.slice D2 nd2 cd2) ∧ W.cell? ⟨w.heap.size + 1, 6, none⟩ = some (.slice E2 ne2 ce2) ∧ W.cell? ⟨w.heap.size + 1, 7, none⟩ = some (.slice L2 nl2 cl2) ∧ W.cell? ⟨w.heap.size + 1, 8, none⟩ = some (.int .i64 d.queue)) (first | exact (X1.out.next (Below.refl _ _).drew).s | assumption) (first
    | (go_at_call 5; (with_reducible refine (H1.out _ (Hid.out (And.left (by assumption)))).mono ?_); rintro r w9 ⟨rfl, hs9⟩)
    | (go_at_call 5; (with_reducible refine (H3.out _ (Hid.out (And.left (by assumption)))).mono ?_); rintro r w9 ⟨rfl, hs9⟩)
    | (go_at_call 6; (with_reducible refine (H2.out _ (Hid.out (And.left (by assumption)))).mono ?_); rintro r w9 ⟨rfl, hs9⟩))
  rename_i hS
  obtain ⟨X3, -⟩ := hS
  clear X1 H1 H2 H3 qq a0 a1 a2 a3 a4 a5 a6 a7 a8 d0 d1 d2 d3 d4 d5 d6 d7 d8
  obtain ⟨-, a0, a1, a2, a3, a4, a5, a6, a7, a8, -⟩ := X3.out.s
  go_wp2_with fail
  refine (copy_any c D E L nd cd ne ce nl cl _ (HA.out.below X3.out.b0) BD.out.1 BD.out.2.1 BD.out.2.2.1 BD.out.2.2.2).mono ?_
  rintro r w4 ⟨gd, vs, vE, vL, rfl, b4, dp⟩
  obtain ⟨EE, cE, hvE, -⟩ := own_form dp.ent
  obtain ⟨LL, cL, hvL, -⟩ := own_form dp.lnk
  rw [← HA.out.nE] at hvE
  rw [← HA.out.nL] at hvL
  subst hvE
  subst hvL
  have DP := Lib.hid dp
  have X4 := Lib.hid (X3.out.next b4)
  have L4 := Lib.hid (And.intro b4.size (And.intro (row_lt X3.out.y) (And.intro dp.hg (row_lt dp.hd))))
  have X5 := Lib.hid (X4.out.next (al (Below.refl w4.heap.size w4) (Obj.cells #[.int .i64 c.hosts, .int .i64 c.cycle, .int .i64 c.delay, .int .i64 c.window, .int .i64 c.precision, .slice (some ⟨gd, 0, none⟩) nd nd, .slice EE ne cE, .slice LL nl cL, .int .i64 c.queue] 26)))
  have HD := Lib.hid (DP.out.next (al (Below.refl w4.heap.size w4) (Obj.cells #[.int .i64 c.hosts, .int .i64 c.cycle, .int .i64 c.delay, .int .i64 c.window, .int .i64 c.precision, .slice (some ⟨gd, 0, none⟩) nd nd, .slice EE ne cE, .slice LL nl cL, .int .i64 c.queue] 26)))
  have DB := Lib.hid (heap_alloc_new w4 (Obj.cells #[.int .i64 c.hosts, .int .i64 c.cycle, .int .i64 c.delay, .int .i64 c.window, .int .i64 c.precision, .slice (some ⟨gd, 0, none⟩) nd nd, .slice EE ne cE, .slice LL nl cL, .int .i64 c.queue] 26))
  have L5 := Lib.hid (show (w4.alloc (Obj.cells #[.int .i64 c.hosts, .int .i64 c.cycle, .int .i64 c.delay, .int .i64 c.window, .int .i64 c.precision, .slice (some ⟨gd, 0, none⟩) nd nd, .slice EE ne cE, .slice LL nl cL, .int .i64 c.queue] 26)).heap.size = w4.heap.size + 1 by simp)
  clear a0 a1 a2 a3 a4 a5 a6 a7 a8 b4 dp X3 X4 hs9
  generalize hhi : w4.heap.size = hi at *
  obtain ⟨-, a0, a1, a2, a3, a4, a5, a6, a7, a8, -⟩ := X5.out.s
  go_wp2_with fail
  generalize w4.alloc (Obj.cells #[.int .i64 c.hosts, .int .i64 c.cycle, .int .i64 c.delay, .int .i64 c.window, .int .i64 c.precision, .slice (some ⟨gd, 0, none⟩) nd nd, .slice EE ne cE, .slice LL nl cL, .int .i64 c.queue] 26) = W5 at *
  refine (refCopy_any c D E L nd cd ne ce nl cl _ (HA.out.below X5.out.b0) BD.out.1 BD.out.2.1 BD.out.2.2.1 BD.out.2.2.2).mono ?_
  rintro r w6 ⟨us, uD, uE, uL, rfl, b6, ow⟩
  obtain ⟨D6, E6, L6, cd6, ce6, cl6, hu1, hu2, hu3, -⟩ := ow.mem (CM.wf c D E L nd cd ne ce nl cl HA.out) HA.out.he.u32 HA.out.hl.u32
  rw [← HA.out.nD] at hu1
  rw [← HA.out.nE] at hu2
  rw [← HA.out.nL] at hu3
  subst hu1
  subst hu2
  subst hu3
  have b7 := b6.trans ((al (Below.refl w6.heap.size w6) (Obj.cells #[.int .i64 c.hosts, .int .i64 c.cycle, .int .i64 c.delay, .int .i64 c.window, .int .i64 c.precision, .slice D6 nd cd6, .slice E6 ne ce6, .slice L6 nl cl6, .int .i64 c.queue] 26)).mono b6.size)
  have X7 := Lib.hid (X5.out.next b7)
  have HD7 := Lib.hid (HD.out.next b7)
  have DB7 := Lib.hid (row_below b7 DB.out)
  have OW7 := Lib.hid (ow.up (Nat.le_refl _) (Up.of _ (al (Below.refl w6.heap.size w6) (Obj.cells #[.int .i64 c.hosts, .int .i64 c.cycle, .int .i64 c.delay, .int .i64 c.window, .int .i64 c.precision, .slice D6 nd cd6, .slice E6 ne ce6, .slice L6 nl cl6, .int .i64 c.queue] 26))))
  have WB7 := Lib.hid (heap_alloc_new w6 (Obj.cells #[.int .i64 c.hosts, .int .i64 c.cycle, .int .i64 c.delay, .int .i64 c.window, .int .i64 c.precision, .slice D6 nd cd6, .slice E6 ne ce6, .slice L6 nl cl6, .int .i64 c.queue] 26))
  have L7 := Lib.hid (show hi < w6.heap.size from by have := b6.size; have := L5.out; omega)
  clear a0 a1 a2 a3 a4 a5 a6 a7 a8 b6 b7 ow X5 HD DB
  obtain ⟨-, a0, a1, a2, a3, a4, a5, a6, a7, a8, -⟩ := X7.out.s
  have g0 : (w6.alloc (Obj.cells #[.int .i64 c.hosts, .int .i64 c.cycle, .int .i64 c.delay, .int .i64 c.window, .int .i64 c.precision, .slice D6 nd cd6, .slice E6 ne ce6, .slice L6 nl cl6, .int .i64 c.queue] 26)).cell? ⟨hi, 0, none⟩ = some (.int .i64 c.hosts) := box_cell (i := 0) DB7.out rfl
  have g1 : (w6.alloc (Obj.cells #[.int .i64 c.hosts, .int .i64 c.cycle, .int .i64 c.delay, .int .i64 c.window, .int .i64 c.precision, .slice D6 nd cd6, .slice E6 ne ce6, .slice L6 nl cl6, .int .i64 c.queue] 26)).cell? ⟨hi, 1, none⟩ = some (.int .i64 c.cycle) := box_cell (i := 1) DB7.out rfl
  have g2 : (w6.alloc (Obj.cells #[.int .i64 c.hosts, .int .i64 c.cycle, .int .i64 c.delay, .int .i64 c.window, .int .i64 c.precision, .slice D6 nd cd6, .slice E6 ne ce6, .slice L6 nl cl6, .int .i64 c.queue] 26)).cell? ⟨hi, 2, none⟩ = some (.int .i64 c.delay) := box_cell (i := 2) DB7.out rfl
  have g3 : (w6.alloc (Obj.cells #[.int .i64 c.hosts, .int .i64 c.cycle, .int .i64 c.delay, .int .i64 c.window, .int .i64 c.precision, .slice D6 nd cd6, .slice E6 ne ce6, .slice L6 nl cl6, .int .i64 c.queue] 26)).cell? ⟨hi, 3, none⟩ = some (.int .i64 c.window) := box_cell (i := 3) DB7.out rfl
  have g4 : (w6.alloc (Obj.cells #[.int .i64 c.hosts, .int .i64 c.cycle, .int .i64 c.delay, .int .i64 c.window, .int .i64 c.precision, .slice D6 nd cd6, .slice E6 ne ce6, .slice L6 nl cl6, .int .i64 c.queue] 26)).cell? ⟨hi, 4, none⟩ = some (.int .i64 c.precision) := box_cell (i := 4) DB7.out rfl
  have g5 : (w6.alloc (Obj.cells #[.int .i64 c.hosts, .int .i64 c.cycle, .int .i64 c.delay, .int .i64 c.window, .int .i64 c.precision, .slice D6 nd cd6, .slice E6 ne ce6, .slice L6 nl cl6, .int .i64 c.queue] 26)).cell? ⟨hi, 5, none⟩ = some (.slice (some ⟨gd, 0, none⟩) nd nd) := box_cell (i := 5) DB7.out rfl
  have g6 : (w6.alloc (Obj.cells #[.int .i64 c.hosts, .int .i64 c.cycle, .int .i64 c.delay, .int .i64 c.window, .int .i64 c.precision, .slice D6 nd cd6, .slice E6 ne ce6, .slice L6 nl cl6, .int .i64 c.queue] 26)).cell? ⟨hi, 6, none⟩ = some (.slice EE ne cE) := box_cell (i := 6) DB7.out rfl
  have g7 : (w6.alloc (Obj.cells #[.int .i64 c.hosts, .int .i64 c.cycle, .int .i64 c.delay, .int .i64 c.window, .int .i64 c.precision, .slice D6 nd cd6, .slice E6 ne ce6, .slice L6 nl cl6, .int .i64 c.queue] 26)).cell? ⟨hi, 7, none⟩ = some (.slice LL nl cL) := box_cell (i := 7) DB7.out rfl
  have g8 : (w6.alloc (Obj.cells #[.int .i64 c.hosts, .int .i64 c.cycle, .int .i64 c.delay, .int .i64 c.window, .int .i64 c.precision, .slice D6 nd cd6, .slice E6 ne ce6, .slice L6 nl cl6, .int .i64 c.queue] 26)).cell? ⟨hi, 8, none⟩ = some (.int .i64 c.queue) := box_cell (i := 8) DB7.out rfl
  obtain ⟨E7, L7', ce7, cl7, hq1, hq2, m7⟩ := HD7.out.mem (CM.wf c D E L nd cd ne ce nl cl HA.out) HA.out.he.u32 HA.out.hl.u32 (by rw [← HA.out.nD]; exact HA.out.mD)
  injection hq1 with hq1a hq1b hq1c
  injection hq2 with hq2a hq2b hq2c
  subst hq1a
  subst hq1c
  subst hq2a
  subst hq2c
  rw [← HA.out.nD, ← HA.out.nE, ← HA.out.nL] at m7
  have M7 := Lib.hid m7
  clear m7 hq1b hq2b
  generalize hhw : w6.heap.size = hw at *
  go_wp2_with fail
  generalize w6.alloc (Obj.cells #[.int .i64 c.hosts, .int .i64 c.cycle, .int .i64 c.delay, .int .i64 c.window, .int .i64 c.precision, .slice D6 nd cd6, .slice E6 ne ce6, .slice L6 nl cl6, .int .i64 c.queue] 26) = W7 at *
  refine (same_any c (some ⟨gd, 0, none⟩) EE LL nd nd ne cE nl cL c D E L nd cd ne ce nl cl _ M7.out (HA.out.below X7.out.b0)).mono ?_
  rintro r w8 ⟨rfl, b8⟩
  rw [eqC_self]
  have X8 := Lib.hid (X7.out.next b8)
  have HD8 := Lib.hid (HD7.out.next b8)
  have DB8 := Lib.hid (row_below b8 DB7.out)
  have OW8 := Lib.hid (OW7.out.up (Nat.le_refl _) (Up.of _ b8))
  have WB8 := Lib.hid (row_below b8 WB7.out)
  clear a0 a1 a2 a3 a4 a5 a6 a7 a8 g0 g1 g2 g3 g4 g5 g6 g7 g8 M7 X7 HD7 DB7 OW7 WB7 b8
  have t5 : w8.cell? ⟨hi, 5, none⟩ = some (.slice (some ⟨gd, 0, none⟩) nd nd) := box_cell (i := 5) DB8.out rfl
  have HHI := Lib.hid hhi
  have LG := Lib.hid (show ∀ (v : Value) (b size n : Nat) (e : TypeId) (xs : List Value), w4.ownsRow b e size v n xs → ∀ g, v.ownBlock = some g → g < hi from fun v b size n e xs h g hg => by have := (h.lt g hg).2; omega)
  have S8 := Lib.hid (Sh.refl (gd + 1) hi w8)
  clear hhi hhw
  go_wp2_with fail
  clear t5
  go_loopw [37] (fun iv wr => ∃ (i : Nat), i ≤ nd ∧ iv = .int .i64 i ∧ Hid (Sh (gd + 1) hi w8 wr)) (fun iv _ => nd - (intOf iv).toNat)
  case atStart => exact ⟨0, Nat.zero_le _, rfl, S8⟩
  case round =>
    clear S8
    obtain ⟨i, hi1, rfl, HS⟩ := hrel
    have bnd := BD.out.1
    have t5 : wr.cell? ⟨hi, 5, none⟩ = some (.slice (some ⟨gd, 0, none⟩) nd nd) := box_cell (i := 5) ((HS.out.out hi (Or.inr (Nat.le_refl _))).trans DB8.out) rfl
    by_cases hlt : (i : Int) < (nd : Int)
    · obtain ⟨x, hx⟩ : ∃ x, c.delays[i]? = some x := ⟨_, List.getElem?_eq_getElem (by have := HA.out.nD; omega)⟩
      obtain ⟨v, hv, ho⟩ := HD8.out.row i x hx
      obtain ⟨v', hv', ho'⟩ := DP.out.row i x hx
      obtain rfl : v = v' := Option.some.inj (hv.symm.trans hv')
      have HG := Lib.hid (LG.out v _ _ _ _ _ ho')
      have HO := Lib.hid ho
      obtain ⟨A, cp, hvA, -⟩ := own_form ho
      have BX := BD.out.2.1 x (List.mem_of_getElem? hx)
      have LN := Lib.hid (nums_len .i64 x)
      subst hvA
      generalize hlx : x.length = lx at *
      have tv : wr.cell? ⟨gd, i, none⟩ = some (.slice A lx cp) := by
        rw [cell_of_row wr gd i _ _ _ ((HS.out.out gd (Or.inl (by omega))).trans HD8.out.hd), List.getElem?_toArray]
        exact hv
      have HV := Lib.hid hv
      clear hv hv' ho ho' hx hlx
      go_wp2_with fail
      go_loopw [46] (fun kv wr => ∃ (k : Nat), k ≤ lx ∧ kv = .int .i64 k ∧ Hid (Sh (gd + 1) hi w8 wr)) (fun kv _ => lx - (intOf kv).toNat)
      case atStart => exact ⟨0, Nat.zero_le _, rfl, HS⟩
      case round =>
        clear HS t5 tv
        obtain ⟨k, hk, rfl, HS⟩ := hrel
        have t5 : wr.cell? ⟨hi, 5, none⟩ = some (.slice (some ⟨gd, 0, none⟩) nd nd) := box_cell (i := 5) ((HS.out.out hi (Or.inr (Nat.le_refl _))).trans DB8.out) rfl
        have tv : wr.cell? ⟨gd, i, none⟩ = some (.slice A lx cp) := by
          rw [cell_of_row wr gd i _ _ _ ((HS.out.out gd (Or.inl (by omega))).trans HD8.out.hd), List.getElem?_toArray]
          exact HV.out
        by_cases hkl : (k : Int) < (lx : Int)
        · obtain ⟨z, hz⟩ : ∃ z, (nums .i64 x)[k]? = some z := ⟨_, List.getElem?_eq_getElem (by have := LN.out; omega)⟩
          obtain ⟨g, cap, u', hA2, g1, g2, tc, tf⟩ := HS.out.cell HO.out (Nat.le_refl _) HG.out hz
          injection hA2 with hA3 _ hA4
          subst hA3
          subst hA4
          have ST := Lib.hid (HS.out.set g1 g2 k (.int .i64 (-9)))
          clear hz g1 g2
          go_wp2
          go_roundw
          case rel => exact ⟨k + 1, by omega, by go_num, Lib.hid ST.out⟩
          case measure => simp [intOf]; omega
        · obtain rfl : k = lx := by omega
          go_wp2
          go_roundw
          case rel => exact ⟨i + 1, by omega, by go_num, HS⟩
          case measure => simp [intOf]; omega
    · obtain rfl : nd = i := by omega
      clear hlt hi1 bnd
      have t6 : wr.cell? ⟨hi, 6, none⟩ = some (.slice EE ne cE) := box_cell (i := 6) ((HS.out.out hi (Or.inr (Nat.le_refl _))).trans DB8.out) rfl
      go_wp2_with fail
      clear t6
      go_loopw [61] (fun iv wr => ∃ (i : Nat), i ≤ ne ∧ iv = .int .i64 i ∧ Hid (Sh (gd + 1) hi w8 wr)) (fun iv _ => ne - (intOf iv).toNat)
      case atStart => exact ⟨0, Nat.zero_le _, rfl, HS⟩
      case round =>
        clear HS
        obtain ⟨i, hi2, rfl, HS⟩ := hrel
        have bn2 := BD.out.2.2.1
        have t6 : wr.cell? ⟨hi, 6, none⟩ = some (.slice EE ne cE) := box_cell (i := 6) ((HS.out.out hi (Or.inr (Nat.le_refl _))).trans DB8.out) rfl
        by_cases hlt : (i : Int) < (ne : Int)
        · obtain ⟨x, hx⟩ : ∃ x, c.entries[i]? = some x := ⟨_, List.getElem?_eq_getElem (by have := HA.out.nE; omega)⟩
          have hz : (ents c.entries)[i * 4 + 3]? = some (fld x 3) := by rw [ents_at _ _ _ (by decide), hx]; rfl
          obtain ⟨g, cap, u', hA2, g1, g2, tc, tf⟩ := HS.out.cell HD8.out.ent (Nat.le_refl _) (LG.out _ _ _ _ _ _ DP.out.ent) hz
          injection hA2 with hA3 _ hA4
          subst hA3
          subst hA4
          have ST := Lib.hid (HS.out.set g1 g2 (i * 4 + 3) (.int .i64 (-9)))
          clear hz g1 g2 hx
          go_wp2
          go_roundw
          case rel => exact ⟨i + 1, by omega, by go_num, Lib.hid ST.out⟩
          case measure => simp [intOf]; omega
        · obtain rfl : ne = i := by omega
          clear hlt hi2 bn2
          have t7 : wr.cell? ⟨hi, 7, none⟩ = some (.slice LL nl cL) := box_cell (i := 7) ((HS.out.out hi (Or.inr (Nat.le_refl _))).trans DB8.out) rfl
          go_wp2_with fail
          clear t7
          go_loopw [73] (fun iv wr => ∃ (i : Nat), i ≤ nl ∧ iv = .int .i64 i ∧ Hid (Sh (gd + 1) hi w8 wr)) (fun iv _ => nl - (intOf iv).toNat)
          case atStart => exact ⟨0, Nat.zero_le _, rfl, HS⟩
          case round =>
            clear HS
            obtain ⟨i, hi2, rfl, HS⟩ := hrel
            have bn2 := BD.out.2.2.2
            have t7 : wr.cell? ⟨hi, 7, none⟩ = some (.slice LL nl cL) := box_cell (i := 7) ((HS.out.out hi (Or.inr (Nat.le_refl _))).trans DB8.out) rfl
            by_cases hlt : (i : Int) < (nl : Int)
            · obtain ⟨x, hx⟩ : ∃ x, c.links[i]? = some x := ⟨_, List.getElem?_eq_getElem (by have := HA.out.nL; omega)⟩
              have hz : (ents c.links)[i * 4 + 2]? = some (fld x 2) := by rw [ents_at _ _ _ (by decide), hx]; rfl
              obtain ⟨g, cap, u', hA2, g1, g2, tc, tf⟩ := HS.out.cell HD8.out.lnk (Nat.le_refl _) (LG.out _ _ _ _ _ _ DP.out.lnk) hz
              injection hA2 with hA3 _ hA4
              subst hA3
              subst hA4
              have ST := Lib.hid (HS.out.set g1 g2 (i * 4 + 2) (.int .i64 (-9)))
              clear hz g1 g2 hx
              go_wp2
              go_roundw
              case rel => exact ⟨i + 1, by omega, by go_num, Lib.hid ST.out⟩
              case measure => simp [intOf]; omega
            · obtain rfl : nl = i := by omega
              clear hlt hi2 bn2
              have B9 := Lib.hid (show Below w.heap.size w wr from X8.out.b0.trans (HS.out.below (by have := L4.out; omega)))
              have A9 := Lib.hid (show wr.heap[w.heap.size]? = _ from (HS.out.out _ (Or.inl (by have := L4.out; omega))).trans X8.out.x)
              have W9 := Lib.hid (show wr.heap[hw]? = _ from (HS.out.out _ (Or.inr (by have := L7.out; omega))).trans WB8.out)
              have O9 := Lib.hid (OW8.out.up (by have := L5.out; omega) HS.out.up)
              have a0 : wr.cell? ⟨w.heap.size, 0, none⟩ = some (.int .i64 c.hosts) := box_cell (i := 0) A9.out rfl
              have a1 : wr.cell? ⟨w.heap.size, 1, none⟩ = some (.int .i64 c.cycle) := box_cell (i := 1) A9.out rfl
              have a2 : wr.cell? ⟨w.heap.size, 2, none⟩ = some (.int .i64 c.delay) := box_cell (i := 2) A9.out rfl
              have a3 : wr.cell? ⟨w.heap.size, 3, none⟩ = some (.int .i64 c.window) := box_cell (i := 3) A9.out rfl
              have a4 : wr.cell? ⟨w.heap.size, 4, none⟩ = some (.int .i64 c.precision) := box_cell (i := 4) A9.out rfl
              have a5 : wr.cell? ⟨w.heap.size, 5, none⟩ = some (.slice D nd cd) := box_cell (i := 5) A9.out rfl
              have a6 : wr.cell? ⟨w.heap.size, 6, none⟩ = some (.slice E ne ce) := box_cell (i := 6) A9.out rfl
              have a7 : wr.cell? ⟨w.heap.size, 7, none⟩ = some (.slice L nl cl) := box_cell (i := 7) A9.out rfl
              have a8 : wr.cell? ⟨w.heap.size, 8, none⟩ = some (.int .i64 c.queue) := box_cell (i := 8) A9.out rfl
              go_wp2_with fail
              refine (check_any c D E L nd cd ne ce nl cl _ (HA.out.below B9.out)).mono ?_
              rintro r w10 ⟨rfl, b10⟩
              have B10 := Lib.hid (B9.out.trans (b10.mono B9.out.size))
              have A10 := Lib.hid (row_below b10 A9.out)
              have W10 := Lib.hid (row_below b10 W9.out)
              have O10 := Lib.hid (O9.out.up (Nat.le_refl _) (Up.of _ b10))
              clear a0 a1 a2 a3 a4 a5 a6 a7 a8 b10 B9 A9 W9 O9 HS
              obtain ⟨D9, E9, L9, cd9, ce9, cl9, hu1, hu2, hu3, m9⟩ := O10.out.mem (CM.wf c D E L nd cd ne ce nl cl HA.out) HA.out.he.u32 HA.out.hl.u32
              injection hu1 with hu1a hu1b hu1c
              clear hu1b
              injection hu2 with hu2a hu2b hu2c
              clear hu2b
              injection hu3 with hu3a hu3b hu3c
              clear hu3b
              subst hu1a
              subst hu1c
              subst hu2a
              subst hu2c
              subst hu3a
              subst hu3c
              rw [← HA.out.nD, ← HA.out.nE, ← HA.out.nL] at m9
              have M9 := Lib.hid m9
              clear m9
              have a0 : w10.cell? ⟨w.heap.size, 0, none⟩ = some (.int .i64 c.hosts) := box_cell (i := 0) A10.out rfl
              have a1 : w10.cell? ⟨w.heap.size, 1, none⟩ = some (.int .i64 c.cycle) := box_cell (i := 1) A10.out rfl
              have a2 : w10.cell? ⟨w.heap.size, 2, none⟩ = some (.int .i64 c.delay) := box_cell (i := 2) A10.out rfl
              have a3 : w10.cell? ⟨w.heap.size, 3, none⟩ = some (.int .i64 c.window) := box_cell (i := 3) A10.out rfl
              have a4 : w10.cell? ⟨w.heap.size, 4, none⟩ = some (.int .i64 c.precision) := box_cell (i := 4) A10.out rfl
              have a5 : w10.cell? ⟨w.heap.size, 5, none⟩ = some (.slice D nd cd) := box_cell (i := 5) A10.out rfl
              have a6 : w10.cell? ⟨w.heap.size, 6, none⟩ = some (.slice E ne ce) := box_cell (i := 6) A10.out rfl
              have a7 : w10.cell? ⟨w.heap.size, 7, none⟩ = some (.slice L nl cl) := box_cell (i := 7) A10.out rfl
              have a8 : w10.cell? ⟨w.heap.size, 8, none⟩ = some (.int .i64 c.queue) := box_cell (i := 8) A10.out rfl
              have g0 : w10.cell? ⟨hw, 0, none⟩ = some (.int .i64 c.hosts) := box_cell (i := 0) W10.out rfl
              have g1 : w10.cell? ⟨hw, 1, none⟩ = some (.int .i64 c.cycle) := box_cell (i := 1) W10.out rfl
              have g2 : w10.cell? ⟨hw, 2, none⟩ = some (.int .i64 c.delay) := box_cell (i := 2) W10.out rfl
              have g3 : w10.cell? ⟨hw, 3, none⟩ = some (.int .i64 c.window) := box_cell (i := 3) W10.out rfl
              have g4 : w10.cell? ⟨hw, 4, none⟩ = some (.int .i64 c.precision) := box_cell (i := 4) W10.out rfl
              have g5 : w10.cell? ⟨hw, 5, none⟩ = some (.slice D6 nd cd6) := box_cell (i := 5) W10.out rfl
              have g6 : w10.cell? ⟨hw, 6, none⟩ = some (.slice E6 ne ce6) := box_cell (i := 6) W10.out rfl
              have g7 : w10.cell? ⟨hw, 7, none⟩ = some (.slice L6 nl cl6) := box_cell (i := 7) W10.out rfl
              have g8 : w10.cell? ⟨hw, 8, none⟩ = some (.int .i64 c.queue) := box_cell (i := 8) W10.out rfl
              go_wp2_with fail
              refine (same_any c D E L nd cd ne ce nl cl c D6 E6 L6 nd cd6 ne ce6 nl cl6 _ (HA.out.below B10.out) M9.out).mono ?_
              rintro r w11 ⟨rfl, b11⟩
              rw [eqC_self]
              have B11 := Lib.hid (B10.out.trans (b11.mono B10.out.size))
              clear a0 a1 a2 a3 a4 a5 a6 a7 a8 g0 g1 g2 g3 g4 g5 g6 g7 g8
              go_wp2
              go_ret
              exact ⟨rfl, B11.out⟩
set_option maxRecDepth 100000 in
/-- What the walk gives, for every argument and every world. -/
theorem contract (H : Type) (enc : TypeId × Value → H) (W : World) (base : Nat) (args : Array Value) (ds gs : List (DataW H)) (before : List MemPlace)
    (hval : ∀ (j : Nat) t v, Try.f3.params[j]? = some t → args[j]? = some v → Value.okWide Try.prog W .any base t v)
    (hW : DataW.Whole enc Try.prog Try.f3.params.toList Rows.confCopiesSpec.vars false W args.toList ds gs before) (hz : (DataW.weightsEach Try.prog (Try.f3.params.toList ++ (OpenSpec.ofChange Rows.confCopiesSpec).bare.plain.varTypes Try.prog) (ds ++ gs)).all (· ≤ reachBytes) = true) : 
    Calls Try.prog 3 args W fun e W' => ∃ v, e = .returned v ∧ Rows.confCopiesSpec.post enc Try.prog Try.f3 false true false false W args v W' := by
  have hW' := hW
  obtain ⟨p, q, hA0, hV, rfl, hfz, hnd⟩ := hW
  have hA : DataW.TrodAll enc Try.prog W 0 (fun _ => true) true Try.f3.params.toList args.toList ds p := hA0
  rw [Try.params3] at hA hval
  obtain ⟨v0, vs0, d0, ds0, p0, q0, hargs, rfl, rfl, h0, r0⟩ := trodAll_cons hA
  obtain ⟨v1, vs1, d1, ds1, p1, q1, rfl, rfl, rfl, h1, r1⟩ := trodAll_cons r0
  obtain ⟨rfl, rfl, rfl⟩ := trodAll_nil r1
  obtain rfl : args = #[v0, v1] := by cases args; simp_all
  obtain ⟨rfl, rfl⟩ := trodVars_none hV
  obtain ⟨c0, D0, E0, L0, nd0, cd0, ne0, ce0, nl0, cl0, rfl, m0, s0⟩ := open_cfg (hval 0 26 v0 rfl rfl) h0
  obtain ⟨ys0, hy0, s50, s60, s70⟩ := s0
  have Z0 := sized_cfg hz (j := 0) (ys := ys0) (by rw [Try.params3]; rfl) (by rw [hy0]; rfl) c0 s50 s60 s70
  rw [← m0.nD, ← m0.nE, ← m0.nL] at Z0
  obtain ⟨c1, D1, E1, L1, nd1, cd1, ne1, ce1, nl1, cl1, rfl, m1, s1⟩ := open_cfg (hval 1 26 v1 rfl rfl) h1
  refine (walk c0 D0 E0 L0 nd0 cd0 ne0 ce0 nl0 cl0 c1 D1 E1 L1 nd1 cd1 ne1 ce1 nl1 cl1 W m0 m1 Z0.1 Z0.2.1 Z0.2.2.1 Z0.2.2.2).mono fun e W' ⟨he, hb⟩ => ?_
  exact ⟨_, he, Shell.post_law laidOut (by kernel_rfl) rfl Try.underlying4 rfl hW' rfl hb⟩
theorem reads (os : Os) {H : Type} (enc : TypeId × Value → H) : ∃ places, DataW.whole enc Try.prog ((World.holding Try.prog os ⟨#[], #[], []⟩).forCall (fun _ _ => 0) ⟨#[], #[.agg #[.int .i64 0, .int .i64 0, .int .i64 0, .int .i64 0, .int .i64 0, .slice none 0 0, .slice none 0 0, .slice none 0 0, .int .i64 0], .agg #[.int .i64 0, .int .i64 0, .int .i64 0, .int .i64 0, .int .i64 0, .slice none 0 0, .slice none 0 0, .slice none 0 0, .int .i64 0]], []⟩).memory Try.f3.params.toList Rows.confCopiesSpec.vars false (#[Value.agg #[.int .i64 0, .int .i64 0, .int .i64 0, .int .i64 0, .int .i64 0, .slice none 0 0, .slice none 0 0, .slice none 0 0, .int .i64 0], Value.agg #[.int .i64 0, .int .i64 0, .int .i64 0, .int .i64 0, .int .i64 0, .slice none 0 0, .slice none 0 0, .slice none 0 0, .int .i64 0]]).toList 8 = some ([.agg [.lit (.int .i64 0), .lit (.int .i64 0), .lit (.int .i64 0), .lit (.int .i64 0), .lit (.int .i64 0), .nil, .nil, .nil, .lit (.int .i64 0)], .agg [.lit (.int .i64 0), .lit (.int .i64 0), .lit (.int .i64 0), .lit (.int .i64 0), .lit (.int .i64 0), .nil, .nil, .nil, .lit (.int .i64 0)]], [], places) :=
  ⟨[], by kernel_rfl⟩
set_option maxRecDepth 100000 in
theorem lifted (os : Os) (started : os.Started) (H : Type) (enc : TypeId × Value → H) (F : Stop.Interp) :
    ReturnsInHanded {} Try.checked os 3 .any ((OpenSpec.ofChange Rows.confCopiesSpec).preRow enc Try.prog Try.f3 Rows.confCopiesRow.domain false Rows.confCopiesRow.laid) (((OpenSpec.ofChange Rows.confCopiesSpec).at F).post enc Try.prog Try.f3 false true false false) := by
  obtain ⟨places, hx⟩ := reads os enc
  refine returnsInHanded_of_row (C := Try.checked) (s := OpenSpec.ofChange Rows.confCopiesSpec) own started (by kernel_rfl) Try.func3
    (witness_row_atRef (enc := enc) (C := Try.checked) false (World.holding Try.prog os ⟨#[], #[], []⟩) #[.agg #[.int .i64 0, .int .i64 0, .int .i64 0, .int .i64 0, .int .i64 0, .slice none 0 0, .slice none 0 0, .slice none 0 0, .int .i64 0], .agg #[.int .i64 0, .int .i64 0, .int .i64 0, .int .i64 0, .int .i64 0, .slice none 0 0, .slice none 0 0, .slice none 0 0, .int .i64 0]] rfl (by kernel_rfl) (by kernel_rfl) (by kernel_rfl)
      (OpenSpec.preRow_of_cond 8 hx (by kernel_rfl) (fun k hk => by cases hk) (by kernel_rfl) (laid_met os _))) ?_
  intro W base args ds gs before hval hW _ _ hz hL _ _
  exact contract H enc W base args ds gs before hval hW hz
theorem said : Rows.ConfCopiesSaid :=
  OpenClaim.holds_of_cond 3 Try.f3 rfl rfl rfl rfl rfl rfl rfl ⟨rfl, rfl, rfl, rfl, rfl⟩ rfl rfl rfl rfl rfl (by kernel_rfl) Try.func3 (by kernel_rfl)
    (of_decide_eq_true (by kernel_rfl)) (by unfold Func.isWrapper; first | (rw [if_pos (by decide +kernel)]; kernel_rfl) | (rw [if_neg (by decide +kernel)]; exact ⟨rfl, rfl⟩))
    (fun os started H enc _ F => by rw [OpenClaim.pre_eq_preRow]; exact lifted os started H enc F)
end Go.Proofs.Ythgfgnphncpoaaa.ConfW.ConfCopies
