/- Equal, whole. -/
import Derived.Test.YtmagjekmlnpfpaaGreatConfF
import Derived.Shelf.Abstract
namespace Go.Proofs.YtmagjekmlnpfpaaGreat.ConfW
open Go.RowKit Shell
/-- Behind w0: two configurations of the call's own, in its first two blocks. -/
structure QX (w0 : World) (c : Cfg) (D E L : Option Addr) (nd cd ne ce nl cl : Nat) (d : Cfg) (D2 E2 L2 : Option Addr) (nd2 cd2 ne2 ce2 nl2 cl2 : Nat) (w : World) : Prop where
  b0 : Below w0.heap.size w0 w
  x : w.heap[w0.heap.size]? = some (Obj.cells #[.int .i64 c.hosts, .int .i64 c.cycle, .int .i64 c.delay, .int .i64 c.window, .int .i64 c.precision, .slice D nd cd, .slice E ne ce, .slice L nl cl, .int .i64 c.queue] 26)
  y : w.heap[w0.heap.size + 1]? = some (Obj.cells #[.int .i64 d.hosts, .int .i64 d.cycle, .int .i64 d.delay, .int .i64 d.window, .int .i64 d.precision, .slice D2 nd2 cd2, .slice E2 ne2 ce2, .slice L2 nl2 cl2, .int .i64 d.queue] 26)
section
variable {w0 w w1 : World} {c d : Cfg} {D E L D2 E2 L2 : Option Addr} {nd cd ne ce nl cl nd2 cd2 ne2 ce2 nl2 cl2 : Nat}
theorem QX.next (h : QX w0 c D E L nd cd ne ce nl cl d D2 E2 L2 nd2 cd2 ne2 ce2 nl2 cl2 w) (b : Below w.heap.size w w1) : QX w0 c D E L nd cd ne ce nl cl d D2 E2 L2 nd2 cd2 ne2 ce2 nl2 cl2 w1 := ⟨h.b0.trans (b.mono h.b0.size), row_below b h.x, row_below b h.y⟩
theorem QX.start : QX w0 c D E L nd cd ne ce nl cl d D2 E2 L2 nd2 cd2 ne2 ce2 nl2 cl2 ((w0.alloc (Obj.cells #[.int .i64 c.hosts, .int .i64 c.cycle, .int .i64 c.delay, .int .i64 c.window, .int .i64 c.precision, .slice D nd cd, .slice E ne ce, .slice L nl cl, .int .i64 c.queue] 26)).alloc (Obj.cells #[.int .i64 d.hosts, .int .i64 d.cycle, .int .i64 d.delay, .int .i64 d.window, .int .i64 d.precision, .slice D2 nd2 cd2, .slice E2 ne2 ce2, .slice L2 nl2 cl2, .int .i64 d.queue] 26)) :=
  ⟨al (al (Below.refl _ _) _) _, row_below (al (Below.refl _ _) _) (heap_alloc_new w0 _), by
    have h1 := heap_alloc_new (w0.alloc (Obj.cells #[.int .i64 c.hosts, .int .i64 c.cycle, .int .i64 c.delay, .int .i64 c.window, .int .i64 c.precision, .slice D nd cd, .slice E ne ce, .slice L nl cl, .int .i64 c.queue] 26)) (Obj.cells #[.int .i64 d.hosts, .int .i64 d.cycle, .int .i64 d.delay, .int .i64 d.window, .int .i64 d.precision, .slice D2 nd2 cd2, .slice E2 ne2 ce2, .slice L2 nl2 cl2, .int .i64 d.queue] 26)
    rwa [show (w0.alloc (Obj.cells #[.int .i64 c.hosts, .int .i64 c.cycle, .int .i64 c.delay, .int .i64 c.window, .int .i64 c.precision, .slice D nd cd, .slice E ne ce, .slice L nl cl, .int .i64 c.queue] 26)).heap.size = w0.heap.size + 1 by simp] at h1⟩
theorem QX.s (h : QX w0 c D E L nd cd ne ce nl cl d D2 E2 L2 nd2 cd2 ne2 ce2 nl2 cl2 w) : Hid (QX w0 c D E L nd cd ne ce nl cl d D2 E2 L2 nd2 cd2 ne2 ce2 nl2 cl2 w) ∧ w.cell? ⟨w0.heap.size, 0, none⟩ = some (.int .i64 c.hosts) ∧ w.cell? ⟨w0.heap.size, 1, none⟩ = some (.int .i64 c.cycle) ∧ w.cell? ⟨w0.heap.size, 2, none⟩ = some (.int .i64 c.delay) ∧ w.cell? ⟨w0.heap.size, 3, none⟩ = some (.int .i64 c.window) ∧ w.cell? ⟨w0.heap.size, 4, none⟩ = some (.int .i64 c.precision) ∧ w.cell? ⟨w0.heap.size, 5, none⟩ = some (.slice D nd cd) ∧ w.cell? ⟨w0.heap.size, 6, none⟩ = some (.slice E ne ce) ∧ w.cell? ⟨w0.heap.size, 7, none⟩ = some (.slice L nl cl) ∧ w.cell? ⟨w0.heap.size, 8, none⟩ = some (.int .i64 c.queue) ∧ w.cell? ⟨w0.heap.size + 1, 0, none⟩ = some (.int .i64 d.hosts) ∧ w.cell? ⟨w0.heap.size + 1, 1, none⟩ = some (.int .i64 d.cycle) ∧ w.cell? ⟨w0.heap.size + 1, 2, none⟩ = some (.int .i64 d.delay) ∧ w.cell? ⟨w0.heap.size + 1, 3, none⟩ = some (.int .i64 d.window) ∧ w.cell? ⟨w0.heap.size + 1, 4, none⟩ = some (.int .i64 d.precision) ∧ w.cell? ⟨w0.heap.size + 1, 5, none⟩ = some (.slice D2 nd2 cd2) ∧ w.cell? ⟨w0.heap.size + 1, 6, none⟩ = some (.slice E2 ne2 ce2) ∧ w.cell? ⟨w0.heap.size + 1, 7, none⟩ = some (.slice L2 nl2 cl2) ∧ w.cell? ⟨w0.heap.size + 1, 8, none⟩ = some (.int .i64 d.queue) :=
  ⟨Lib.hid h, box_cell h.x rfl, box_cell h.x rfl, box_cell h.x rfl, box_cell h.x rfl, box_cell h.x rfl, box_cell h.x rfl, box_cell h.x rfl, box_cell h.x rfl, box_cell h.x rfl, box_cell h.y rfl, box_cell h.y rfl, box_cell h.y rfl, box_cell h.y rfl, box_cell h.y rfl, box_cell h.y rfl, box_cell h.y rfl, box_cell h.y rfl, box_cell h.y rfl⟩
end
end Go.Proofs.YtmagjekmlnpfpaaGreat.ConfW


