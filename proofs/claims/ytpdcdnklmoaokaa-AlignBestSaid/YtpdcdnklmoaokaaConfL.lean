/- The document's own: entries. -/
import Derived.Test.YtpdcdnklmoaokaaConfF
namespace Go.Proofs.Ytpdcdnklmoaokaa.ConfW
open Go.RowKit Shell
/-- Behind w0: a configuration of the call's own in its first block, two entries in others. -/
structure GX (w0 : World) (g g2 : Nat) (c : Cfg) (D E L : Option Addr) (nd cd ne ce nl cl : Nat) (e d : R4) (w : World) : Prop where
  b : Below w0.heap.size w0 w
  x : w.heap[w0.heap.size]? = some (Obj.cells #[.int .i64 c.hosts, .int .i64 c.cycle, .int .i64 c.delay, .int .i64 c.window, .int .i64 c.precision, .slice D nd cd, .slice E ne ce, .slice L nl cl, .int .i64 c.queue] 26)
  y : w.heap[g]? = some (Obj.cells #[.int .i64 e.a, .int .u32 e.b, .int .i64 e.c, .int .i64 e.d] 68)
  z : w.heap[g2]? = some (Obj.cells #[.int .i64 d.a, .int .u32 d.b, .int .i64 d.c, .int .i64 d.d] 68)
section
variable {w0 w w1 : World} {g g2 : Nat} {c : Cfg} {D E L : Option Addr} {nd cd ne ce nl cl : Nat} {e d : R4}
theorem GX.next (h : GX w0 g g2 c D E L nd cd ne ce nl cl e d w) (b : Below w.heap.size w w1) : GX w0 g g2 c D E L nd cd ne ce nl cl e d w1 := ⟨h.b.trans (b.mono h.b.size), row_below b h.x, row_below b h.y, row_below b h.z⟩
theorem GX.drew (h : GX w0 g g2 c D E L nd cd ne ce nl cl e d w) : GX w0 g g2 c D E L nd cd ne ce nl cl e d w.drew := h.next (Below.refl _ _).drew
theorem EX.ent (h : EX w0 g c D E L nd cd ne ce nl cl e w) (d : R4) : GX w0 g w.heap.size c D E L nd cd ne ce nl cl e d (w.alloc (Obj.cells #[.int .i64 d.a, .int .u32 d.b, .int .i64 d.c, .int .i64 d.d] 68)) := ⟨(h.next (al (Below.refl _ _) _)).b, (h.next (al (Below.refl _ _) _)).x, (h.next (al (Below.refl _ _) _)).y, heap_alloc_new w _⟩
theorem GX.s (h : GX w0 g g2 c D E L nd cd ne ce nl cl e d w) : Hid (GX w0 g g2 c D E L nd cd ne ce nl cl e d w) ∧ w.cell? ⟨w0.heap.size, 0, none⟩ = some (.int .i64 c.hosts) ∧ w.cell? ⟨w0.heap.size, 1, none⟩ = some (.int .i64 c.cycle) ∧ w.cell? ⟨w0.heap.size, 2, none⟩ = some (.int .i64 c.delay) ∧ w.cell? ⟨w0.heap.size, 3, none⟩ = some (.int .i64 c.window) ∧ w.cell? ⟨w0.heap.size, 4, none⟩ = some (.int .i64 c.precision) ∧ w.cell? ⟨w0.heap.size, 5, none⟩ = some (.slice D nd cd) ∧ w.cell? ⟨w0.heap.size, 6, none⟩ = some (.slice E ne ce) ∧ w.cell? ⟨w0.heap.size, 7, none⟩ = some (.slice L nl cl) ∧ w.cell? ⟨w0.heap.size, 8, none⟩ = some (.int .i64 c.queue) ∧ w.cell? ⟨g, 0, none⟩ = some (.int .i64 e.a) ∧ w.cell? ⟨g, 1, none⟩ = some (.int .u32 e.b) ∧ w.cell? ⟨g, 2, none⟩ = some (.int .i64 e.c) ∧ w.cell? ⟨g, 3, none⟩ = some (.int .i64 e.d) ∧ w.cell? ⟨g2, 0, none⟩ = some (.int .i64 d.a) ∧ w.cell? ⟨g2, 1, none⟩ = some (.int .u32 d.b) ∧ w.cell? ⟨g2, 2, none⟩ = some (.int .i64 d.c) ∧ w.cell? ⟨g2, 3, none⟩ = some (.int .i64 d.d) :=
  ⟨Lib.hid h, box_cell h.x rfl, box_cell h.x rfl, box_cell h.x rfl, box_cell h.x rfl, box_cell h.x rfl, box_cell h.x rfl, box_cell h.x rfl, box_cell h.x rfl, box_cell h.x rfl, box_cell h.y rfl, box_cell h.y rfl, box_cell h.y rfl, box_cell h.y rfl, box_cell h.z rfl, box_cell h.z rfl, box_cell h.z rfl, box_cell h.z rfl⟩
end
end Go.Proofs.Ytpdcdnklmoaokaa.ConfW

