/- The calls of a script that came in, opened; what a script's loop keeps: the collection, the document's own list, boxes. -/
import Derived.Test.YtpjaijibkjmgiaaCompFixed
import Derived.Test.YtpjaijibkjmgiaaCompJ
import Derived.Test.YtpjaijibkjmgiaaCompK
import Derived.Test.YtpjaijibkjmgiaaRowF
namespace Go.Proofs.Ytpjaijibkjmgiaa.CompW
open Go.ChangeShapes Go.WideShapes Go.ChangeAt Go.RowKit Shell
open FrameW (CV rightC)
abbrev ks7 : List IntKind := [.i64, .i64, .i64, .i64, .i64, .u32, .i64]
theorem seven {l : List Value} (h : l.length = 7) : ∃ a b c d e f g, l = [a, b, c, d, e, f, g] := by
  match l, h with
  | [a, b, c, d, e, f, g], _ => exact ⟨a, b, c, d, e, f, g, rfl⟩
set_option maxRecDepth 100000 in
theorem nums_op {H : Type} {enc : TypeId × Value → H} : Nums Try.prog H enc 33 ks7 := by
  intro w base spare held n cs x hx hl
  obtain ⟨a, b, c, d, e, f, g, rfl⟩ := seven hl
  obtain ⟨ys, k', -, -, -, hyl, hg⟩ := DataW.trod_struct Try.underlying33 hx
  have ci : Try.prog.cellsOf 3 = 1 := by kernel_rfl
  have cl : Try.prog.cellsOf 2 = 1 := by kernel_rfl
  have cu : Try.prog.cellsOf 29 = 1 := by kernel_rfl
  have cc : Try.prog.cellsOf 31 = 5 := by kernel_rfl
  obtain ⟨y0, h0⟩ := fieldC hg hyl 0 3 _ 0 1 rfl rfl rfl ci
  obtain ⟨y1, h1⟩ := fieldC hg hyl 1 2 _ 1 1 rfl rfl rfl cl
  obtain ⟨y3, h3⟩ := fieldC hg hyl 2 31 _ 2 5 rfl rfl rfl cc
  obtain ⟨zs, k2, -, -, -, hzl, hz⟩ := DataW.trod_struct Try.underlying31 h3
  obtain ⟨z0, g0⟩ := fieldC hz hzl 0 3 _ 0 1 rfl rfl rfl ci
  obtain ⟨z1, g1⟩ := fieldC hz hzl 1 3 _ 1 1 rfl rfl rfl ci
  obtain ⟨z2, g2⟩ := fieldC hz hzl 2 2 _ 2 1 rfl rfl rfl cl
  obtain ⟨z3, g3⟩ := fieldC hz hzl 3 29 _ 3 1 rfl rfl rfl cu
  obtain ⟨z4, g4⟩ := fieldC hz hzl 4 2 _ 4 1 rfl rfl rfl cl
  obtain ⟨p0, rfl, w0⟩ := trod_num Try.underlying3 h0
  obtain ⟨p1, rfl, w1⟩ := trod_num Try.underlying2 h1
  obtain ⟨p2, rfl, w2⟩ := trod_num Try.underlying3 g0
  obtain ⟨p3, rfl, w3⟩ := trod_num Try.underlying3 g1
  obtain ⟨p4, rfl, w4⟩ := trod_num Try.underlying2 g2
  obtain ⟨p5, rfl, w5⟩ := trod_num Try.underlying29 g3
  obtain ⟨p6, rfl, w6⟩ := trod_num Try.underlying2 g4
  intro j q hq
  match j, hq with
  | 0, hq => cases hq; exact ⟨p0, rfl, w0⟩
  | 1, hq => cases hq; exact ⟨p1, rfl, w1⟩
  | 2, hq => cases hq; exact ⟨p2, rfl, w2⟩
  | 3, hq => cases hq; exact ⟨p3, rfl, w3⟩
  | 4, hq => cases hq; exact ⟨p4, rfl, w4⟩
  | 5, hq => cases hq; exact ⟨p5, rfl, w5⟩
  | 6, hq => cases hq; exact ⟨p6, rfl, w6⟩
  | n + 7, hq => simp at hq
theorem row7 {w : World} {q0 q1 q2 q3 q4 q5 q6 : IntKind} {A : Option Addr} {rows : List (List Int)} (h : RL w [q0, q1, q2, q3, q4, q5, q6] A rows) {k : Nat} {xs : List Int} (hk : rows[k]? = some xs) :
    ∃ b off x0 x1 x2 x3 x4 x5 x6, A = some ⟨b, off, none⟩ ∧ xs = [x0, x1, x2, x3, x4, x5, x6] ∧ w.cell? ⟨b, off + k * 7, none⟩ = some (.int q0 x0) ∧ w.cell? ⟨b, off + k * 7 + 1, none⟩ = some (.int q1 x1) ∧ w.cell? ⟨b, off + k * 7 + 2, none⟩ = some (.int q2 x2) ∧ w.cell? ⟨b, off + k * 7 + 3, none⟩ = some (.int q3 x3) ∧
      w.cell? ⟨b, off + k * 7 + 4, none⟩ = some (.int q4 x4) ∧ w.cell? ⟨b, off + k * 7 + 5, none⟩ = some (.int q5 x5) ∧ w.cell? ⟨b, off + k * 7 + 6, none⟩ = some (.int q6 x6) ∧ (Lit.int q5 x5).wf = true ∧ (Lit.int q1 x1).wf = true := by
  obtain ⟨b, off, hA, hl, hc⟩ := h.cellAt (by simp) hk
  match xs, hl with
  | [x0, x1, x2, x3, x4, x5, x6], _ =>
    exact ⟨b, off, x0, x1, x2, x3, x4, x5, x6, hA, rfl, (hc 0 _ _ rfl rfl).1, (hc 1 _ _ rfl rfl).1, (hc 2 _ _ rfl rfl).1, (hc 3 _ _ rfl rfl).1, (hc 4 _ _ rfl rfl).1, (hc 5 _ _ rfl rfl).1, (hc 6 _ _ rfl rfl).1, (hc 5 _ _ rfl rfl).2, (hc 1 _ _ rfl rfl).2⟩
abbrev opx (x0 t k f y c l : Int) : Obj := .cells #[.int .i64 x0, .int .i64 t, .int .i64 k, .int .i64 f, .int .i64 y, .int .u32 c, .int .i64 l] 33 (0, 0)
theorem cells7 {w : World} {j : Nat} {v0 v1 v2 v3 v4 v5 v6 : Value} {t : TypeId} (h : w.heap[j]? = some (.cells #[v0, v1, v2, v3, v4, v5, v6] t (0, 0))) : w.cell? ⟨j, 0, none⟩ = some v0 ∧ w.cell? ⟨j, 1, none⟩ = some v1 ∧ w.cell? ⟨j, 2, none⟩ = some v2 ∧ w.cell? ⟨j, 3, none⟩ = some v3 ∧ w.cell? ⟨j, 4, none⟩ = some v4 ∧ w.cell? ⟨j, 5, none⟩ = some v5 ∧ w.cell? ⟨j, 6, none⟩ = some v6 :=
  ⟨cell_of_row w j 0 _ _ _ h, cell_of_row w j 1 _ _ _ h, cell_of_row w j 2 _ _ _ h, cell_of_row w j 3 _ _ _ h, cell_of_row w j 4 _ _ _ h, cell_of_row w j 5 _ _ _ h, cell_of_row w j 6 _ _ _ h⟩
theorem guardC : Try.prog.eqGuardType Try.prog.depth 31 = false := by kernel_rfl
/-- The collection (box g) holds S1, the document's own list (v, of the call's own from block B on) holds S2; boxes L. -/
structure PQ (w0 : World) (L : List (Nat × Obj)) (g B : Nat) (d : Int) (S1 : List Fr) (v : Value) (S2 : List Fr) (w : World) : Prop where
  p : PC w0 L g d S1 w
  o : OL w B v S2
  gB : g < B
  w0B : w0.heap.size ≤ B
  Bw : B ≤ w.heap.size
  lo : ∀ x ∈ L, v.ownBlock ≠ some x.1
section
variable {w0 : World} {L : List (Nat × Obj)} {g B : Nat} {d : Int} {S1 S2 : List Fr} {v : Value} {w w1 : World}
theorem PQ.b (P : PQ w0 L g B d S1 v S2 w) : Below w0.heap.size w0 w := P.p.st.b
theorem PQ.next (P : PQ w0 L g B d S1 v S2 w) (b : Below w.heap.size w w1) : PQ w0 L g B d S1 v S2 w1 := ⟨P.p.next b, P.o.below b, P.gB, P.w0B, Nat.le_trans P.Bw b.size, P.lo⟩
theorem PQ.drew (P : PQ w0 L g B d S1 v S2 w) : PQ w0 L g B d S1 v S2 w.drew := P.next (Below.refl _ _).drew
theorem PQ.alloc (P : PQ w0 L g B d S1 v S2 w) (o : Obj) : PQ w0 ((w.heap.size, o) :: L) g B d S1 v S2 (w.alloc o) := by
  have P1 := P.next (al (Below.refl _ _) o)
  refine ⟨P.p.alloc o, P1.o, P.gB, P.w0B, P1.Bw, fun x hx e => ?_⟩
  rcases List.mem_cons.1 hx with rfl | hx
  · have := (P.o.lt _ e).2; omega
  · exact P.lo x hx e
theorem PQ.sub (P : PQ w0 L g B d S1 v S2 w) {M : List (Nat × Obj)} (hM : ∀ x ∈ M, x ∈ L) : PQ w0 M g B d S1 v S2 w := ⟨P.p.sub hM, P.o, P.gB, P.w0B, P.Bw, fun x hx => P.lo x (hM x hx)⟩
theorem PQ.ng (P : PQ w0 L g B d S1 v S2 w) : v.ownBlock ≠ some g := fun e => by have := (P.o.lt g e).1; have := P.gB; omega
/-- The collection turns. -/
theorem PQ.turn {S : List Fr} (P : PQ w0 L g B d S1 v S2 w) (p : PC w0 L g d S w1) (k : Kept g w w1) : PQ w0 L g B d S v S2 w1 :=
  ⟨p, P.o.turn k P.ng, P.gB, P.w0B, Nat.le_trans P.Bw k.size, P.lo⟩
/-- The document's own list turns. -/
theorem PQ.row {S : List Fr} {v' : Value} (P : PQ w0 L g B d S1 v S2 w) (s : Step w v w1 v') (o : OL w1 B v' S) : PQ w0 L g B d S1 v' S w1 :=
  ⟨P.p.rest s P.ng (fun k e => by have := (P.o.lt k e).1; have := P.w0B; omega) P.lo, o, P.gB, P.w0B, Nat.le_trans P.Bw s.g.size, fun x hx e => by
    rcases s.m with h | ⟨k, h, hk⟩
    · exact P.lo x hx (h ▸ e)
    · rw [h] at e
      cases e
      have := lt_of_heap (P.p.st.h x hx)
      omega⟩
/-- It is emptied. -/
theorem PQ.clear (P : PQ w0 L g B d S1 v S2 w) : PQ w0 L g B d S1 (.slice none 0 0) [] w := ⟨P.p, OL.nil _ _, P.gB, P.w0B, P.Bw, fun _ _ e => by cases e⟩
theorem PQ.list (P : PQ w0 L g B d S1 v S2 w) : ∃ A c, v = .slice A S2.length c ∧ HL w A S2 := by
  obtain ⟨A, c, e, h, -⟩ := P.o.form
  exact ⟨A, c, e, h⟩
end
end Go.Proofs.Ytpjaijibkjmgiaa.CompW
