/- The calls of a script that came in, opened: four numbers of its own, and a frame. -/
import Derived.Test.YtmkgnkbcdkcboaaPermFixed
import Derived.Test.YtmkgnkbcdkcboaaRowF
namespace Go.Proofs.Ytmkgnkbcdkcboaa.PermW
open Go.ChangeShapes Go.WideShapes Go.ChangeAt Go.RowKit Shell
abbrev ks8 : List IntKind := [.i64, .i64, .i64, .i64, .i64, .i64, .u32, .i64]
theorem eight {l : List Value} (h : l.length = 8) : ∃ a b c d e f g i, l = [a, b, c, d, e, f, g, i] := by
  match l, h with
  | [a, b, c, d, e, f, g, i], _ => exact ⟨a, b, c, d, e, f, g, i, rfl⟩
set_option maxRecDepth 100000 in
theorem nums_op {H : Type} {enc : TypeId × Value → H} : Nums Try.prog H enc 39 ks8 := by
  intro w base spare held n cs x hx hl
  obtain ⟨a, b, c, d, e, f, g, i, rfl⟩ := eight hl
  obtain ⟨ys, k', -, -, -, hyl, hg⟩ := DataW.trod_struct Try.underlying39 hx
  have ci : Try.prog.cellsOf 3 = 1 := by kernel_rfl
  have cl : Try.prog.cellsOf 2 = 1 := by kernel_rfl
  have cu : Try.prog.cellsOf 35 = 1 := by kernel_rfl
  have cc : Try.prog.cellsOf 37 = 5 := by kernel_rfl
  obtain ⟨y0, h0⟩ := fieldC hg hyl 0 3 _ 0 1 rfl rfl rfl ci
  obtain ⟨y1, h1⟩ := fieldC hg hyl 1 2 _ 1 1 rfl rfl rfl cl
  obtain ⟨y2, h2⟩ := fieldC hg hyl 2 2 _ 2 1 rfl rfl rfl cl
  obtain ⟨y3, h3⟩ := fieldC hg hyl 3 37 _ 3 5 rfl rfl rfl cc
  obtain ⟨zs, k2, -, -, -, hzl, hz⟩ := DataW.trod_struct Try.underlying37 h3
  obtain ⟨z0, g0⟩ := fieldC hz hzl 0 3 _ 0 1 rfl rfl rfl ci
  obtain ⟨z1, g1⟩ := fieldC hz hzl 1 3 _ 1 1 rfl rfl rfl ci
  obtain ⟨z2, g2⟩ := fieldC hz hzl 2 2 _ 2 1 rfl rfl rfl cl
  obtain ⟨z3, g3⟩ := fieldC hz hzl 3 35 _ 3 1 rfl rfl rfl cu
  obtain ⟨z4, g4⟩ := fieldC hz hzl 4 2 _ 4 1 rfl rfl rfl cl
  obtain ⟨p0, rfl, w0⟩ := trod_num Try.underlying3 h0
  obtain ⟨p1, rfl, w1⟩ := trod_num Try.underlying2 h1
  obtain ⟨p2, rfl, w2⟩ := trod_num Try.underlying2 h2
  obtain ⟨p3, rfl, w3⟩ := trod_num Try.underlying3 g0
  obtain ⟨p4, rfl, w4⟩ := trod_num Try.underlying3 g1
  obtain ⟨p5, rfl, w5⟩ := trod_num Try.underlying2 g2
  obtain ⟨p6, rfl, w6⟩ := trod_num Try.underlying35 g3
  obtain ⟨p7, rfl, w7⟩ := trod_num Try.underlying2 g4
  intro j q hq
  match j, hq with
  | 0, hq => cases hq; exact ⟨p0, rfl, w0⟩
  | 1, hq => cases hq; exact ⟨p1, rfl, w1⟩
  | 2, hq => cases hq; exact ⟨p2, rfl, w2⟩
  | 3, hq => cases hq; exact ⟨p3, rfl, w3⟩
  | 4, hq => cases hq; exact ⟨p4, rfl, w4⟩
  | 5, hq => cases hq; exact ⟨p5, rfl, w5⟩
  | 6, hq => cases hq; exact ⟨p6, rfl, w6⟩
  | 7, hq => cases hq; exact ⟨p7, rfl, w7⟩
  | n + 8, hq => simp at hq
end Go.Proofs.Ytmkgnkbcdkcboaa.PermW
